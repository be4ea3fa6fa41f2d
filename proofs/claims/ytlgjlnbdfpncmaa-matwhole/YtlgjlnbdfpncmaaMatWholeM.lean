/-
  Matrices of whole numbers that are not too great: plain mathematics, and the calls that the law MatWhole makes.
-/
import Derived.Test.YtlgjlnbdfpncmaaMatTwo
import Derived.Test.YtlgjlnbdfpncmaaMatInv
import Derived.Test.YtlgjlnbdfpncmaaMatScale
import Derived.Test.YtlgjlnbdfpncmaaMatConcat
namespace Go.Proofs.Ytlgjlnbdfpncmaa
open Go.RowKit
open Fx
namespace Fx
def Bd (k n : Int) : Prop := -k ≤ n ∧ n ≤ k
theorem Bd.mul {i j a x : Int} (ha : Bd i a) (hx : Bd j x) (hi : 0 ≤ i) (hj : 0 ≤ j) : Bd (i * j) (a * x) := by
  unfold Bd at *
  have h : (a * x).natAbs ≤ i.natAbs * j.natAbs := by rw [Int.natAbs_mul]; exact Nat.mul_le_mul (by omega) (by omega)
  have e : ((i.natAbs * j.natAbs : Nat) : Int) = i * j := by rw [Int.natCast_mul]; rw [Int.natAbs_of_nonneg hi, Int.natAbs_of_nonneg hj]
  omega
theorem Bd.add {i j a x : Int} (ha : Bd i a) (hx : Bd j x) : Bd (i + j) (a + x) := by unfold Bd at *; omega
theorem Bd.neg {i a : Int} (ha : Bd i a) : Bd i (-a) := by unfold Bd at *; omega
theorem Bd.mono {i j a : Int} (ha : Bd i a) (h : i ≤ j) : Bd j a := by unfold Bd at *; omega
theorem wh_fits {a : Int} (h : Bd 30000 a) : fits (a * 65536) = true := by unfold Bd at h; exact (fits_iff _).2 ⟨by omega, by omega⟩
theorem wh_mul {a x : Int} (ha : Bd 30000 a) (hx : Bd 30000 x) (h : Bd 30000 (a * x)) : mulV (a * 65536) (x * 65536) = a * x * 65536 ∧ mulE (a * 65536) (x * 65536) = 0 := by
  have e : near (a * 65536 * (x * 65536)) 65536 = a * x * 65536 := by
    rw [show a * 65536 * (x * 65536) = (a * x * 65536) * 65536 by rw [Int.mul_assoc a 65536, ← Int.mul_assoc 65536 x 65536, Int.mul_comm 65536 x, ← Int.mul_assoc a, ← Int.mul_assoc a]]
    exact near_mul _ _ (by omega)
  simp [mulV, mulE, wh_fits ha, wh_fits hx, e, outV_yes (wh_fits h), outE_yes (wh_fits h)]
theorem wh_add {a x : Int} (ha : Bd 30000 a) (hx : Bd 30000 x) (h : Bd 30000 (a + x)) : addV (a * 65536) (x * 65536) = (a + x) * 65536 ∧ addE (a * 65536) (x * 65536) = 0 := by
  have e : a * 65536 + x * 65536 = (a + x) * 65536 := by rw [Int.add_mul]
  simp [addV, addE, wh_fits ha, wh_fits hx, e, outV_yes (wh_fits h), outE_yes (wh_fits h)]
theorem wh_sub {a x : Int} (ha : Bd 30000 a) (hx : Bd 30000 x) (h : Bd 30000 (a - x)) : subV (a * 65536) (x * 65536) = (a - x) * 65536 ∧ subE (a * 65536) (x * 65536) = 0 := by
  have e : a * 65536 - x * 65536 = (a - x) * 65536 := by rw [Int.sub_mul]
  simp [subV, subE, wh_fits ha, wh_fits hx, e, outV_yes (wh_fits h), outE_yes (wh_fits h)]
theorem wh_lin {a x c y : Int} (ha : Bd 30000 a) (hx : Bd 30000 x) (hc : Bd 30000 c) (hy : Bd 30000 y) (h1 : Bd 10000 (a * x)) (h2 : Bd 10000 (c * y)) :
    linV (a * 65536) (x * 65536) (c * 65536) (y * 65536) = (a * x + c * y) * 65536 ∧ linE (a * 65536) (x * 65536) (c * 65536) (y * 65536) = 0 := by
  obtain ⟨e1, e2⟩ := wh_mul ha hx (h1.mono (by omega))
  obtain ⟨e3, e4⟩ := wh_mul hc hy (h2.mono (by omega))
  obtain ⟨e5, e6⟩ := wh_add (h1.mono (by omega)) (h2.mono (by omega)) ((h1.add h2).mono (by omega))
  unfold linV linE
  rw [e1, e2, e3, e4, e5, e6]
  exact ⟨rfl, by simp [kE]⟩
theorem wh_lin1 {a x c y t : Int} (ha : Bd 30000 a) (hx : Bd 30000 x) (hc : Bd 30000 c) (hy : Bd 30000 y) (h1 : Bd 10000 (a * x)) (h2 : Bd 10000 (c * y)) (ht : Bd 10000 t) :
    lin1V (a * 65536) (x * 65536) (c * 65536) (y * 65536) (t * 65536) = (a * x + c * y + t) * 65536 ∧ lin1E (a * 65536) (x * 65536) (c * 65536) (y * 65536) (t * 65536) = 0 := by
  obtain ⟨e1, e2⟩ := wh_lin ha hx hc hy h1 h2
  obtain ⟨e5, e6⟩ := wh_add ((h1.add h2).mono (by omega)) (ht.mono (by omega)) (((h1.add h2).add ht).mono (by omega))
  unfold lin1V lin1E
  rw [e1, e2, e5, e6]
  exact ⟨rfl, by simp [kE]⟩
/-- Apply of whole numbers -/
theorem wh_apply {a b c d tx ty x y i j : Int} (ha : Bd i a) (hb : Bd i b) (hc : Bd i c) (hd : Bd i d) (hx : Bd j x) (hy : Bd j y) (htx : Bd 1000 tx) (hty : Bd 1000 ty) (hi : 0 ≤ i) (hj : 0 ≤ j) (hij : i * j ≤ 10000) (hi2 : i ≤ 30000) (hj2 : j ≤ 30000) :
    lin1V (a * 65536) (x * 65536) (c * 65536) (y * 65536) (tx * 65536) = (a * x + c * y + tx) * 65536 ∧ lin1V (b * 65536) (x * 65536) (d * 65536) (y * 65536) (ty * 65536) = (b * x + d * y + ty) * 65536 ∧
      aplE (a * 65536) (b * 65536) (c * 65536) (d * 65536) (tx * 65536) (ty * 65536) (x * 65536) (y * 65536) = 0 := by
  obtain ⟨e1, e2⟩ := wh_lin1 (ha.mono hi2) (hx.mono hj2) (hc.mono hi2) (hy.mono hj2) ((ha.mul hx hi hj).mono hij) ((hc.mul hy hi hj).mono hij) (htx.mono (by omega))
  obtain ⟨e3, e4⟩ := wh_lin1 (hb.mono hi2) (hx.mono hj2) (hd.mono hi2) (hy.mono hj2) ((hb.mul hx hi hj).mono hij) ((hd.mul hy hi hj).mono hij) (hty.mono (by omega))
  unfold aplE
  rw [e1, e3, e2, e4]
  exact ⟨rfl, rfl, by simp [kE]⟩
theorem fits_o : fits 65536 = true := by decide
theorem near_z : near 0 65536 = 0 := by decide
theorem mulV_z {x : Int} (h : fits x = true) : mulV x 0 = 0 := by simp [mulV, h, fits_zero, near_z, outV]
theorem mulE_z {x : Int} (h : fits x = true) : mulE x 0 = 0 := by simp [mulE, h, fits_zero, near_z, outE]
theorem mulV_z' {x : Int} (h : fits x = true) : mulV 0 x = 0 := by rw [← mulV_comm]; exact mulV_z h
theorem mulE_z' {x : Int} (h : fits x = true) : mulE 0 x = 0 := by rw [← mulE_comm]; exact mulE_z h
theorem wh_one : (1 : Int) * 65536 = 65536 := by decide
end Fx
def PtR (X Y : Int) (w : World) (e : Ending) (w' : World) : Prop := e = .returned (.tuple #[.agg #[.int .i64 X, .int .i64 Y], .int .i64 0]) ∧ Below w.heap.size w w'
def SixR (X0 X1 X2 X3 X4 X5 : Int) (w : World) (e : Ending) (w' : World) : Prop := e = .returned (.tuple #[.agg #[.int .i64 X0, .int .i64 X1, .int .i64 X2, .int .i64 X3, .int .i64 X4, .int .i64 X5], .int .i64 0]) ∧ Below w.heap.size w w'
theorem wApply (a b c d tx ty x y i j : Int) (ha : Bd i a) (hb : Bd i b) (hc : Bd i c) (hd : Bd i d) (hx : Bd j x) (hy : Bd j y) (htx : Bd 1000 tx) (hty : Bd 1000 ty) (hi : 0 ≤ i) (hj : 0 ≤ j) (hij : i * j ≤ 10000) (hi2 : i ≤ 30000) (hj2 : j ≤ 30000) (w : World) :
    Calls Try.prog 8 #[.agg #[.int .i64 (a * 65536), .int .i64 (b * 65536), .int .i64 (c * 65536), .int .i64 (d * 65536), .int .i64 (tx * 65536), .int .i64 (ty * 65536)], .agg #[.int .i64 (x * 65536), .int .i64 (y * 65536)]] w (PtR ((a * x + c * y + tx) * 65536) ((b * x + d * y + ty) * 65536) w) := by
  have h := matApply_at (a * 65536) (b * 65536) (c * 65536) (d * 65536) (tx * 65536) (ty * 65536) (x * 65536) (y * 65536) w
  obtain ⟨e1, e2, e3⟩ := wh_apply ha hb hc hd hx hy htx hty hi hj hij hi2 hj2
  rw [e1, e2, e3] at h
  unfold PtE sel at h
  unfold PtR
  simpa using h
theorem whole_first (A0 A1 A2 A3 A4 A5 B0 B1 B2 B3 B4 B5 X Y : Int) (a0 : Bd 3 A0) (a1 : Bd 3 A1) (a2 : Bd 3 A2) (a3 : Bd 3 A3) (a4 : Bd 3 A4) (a5 : Bd 3 A5) (b0 : Bd 3 B0) (b1 : Bd 3 B1) (b2 : Bd 3 B2) (b3 : Bd 3 B3) (b4 : Bd 3 B4) (b5 : Bd 3 B5) (hx : Bd 19 X) (hy : Bd 19 Y) :
    ∃ C0 C1 C2 C3 C4 C5 P1 P2 Q1 Q2 : Int,
      (∀ v, Calls Try.prog 13 #[.agg #[.int .i64 (A0 * 65536), .int .i64 (A1 * 65536), .int .i64 (A2 * 65536), .int .i64 (A3 * 65536), .int .i64 (A4 * 65536), .int .i64 (A5 * 65536)], .agg #[.int .i64 (B0 * 65536), .int .i64 (B1 * 65536), .int .i64 (B2 * 65536), .int .i64 (B3 * 65536), .int .i64 (B4 * 65536), .int .i64 (B5 * 65536)]] v (SixR C0 C1 C2 C3 C4 C5 v)) ∧
      (∀ v, Calls Try.prog 8 #[.agg #[.int .i64 (A0 * 65536), .int .i64 (A1 * 65536), .int .i64 (A2 * 65536), .int .i64 (A3 * 65536), .int .i64 (A4 * 65536), .int .i64 (A5 * 65536)], .agg #[.int .i64 (X * 65536), .int .i64 (Y * 65536)]] v (PtR P1 P2 v)) ∧
      (∀ v, Calls Try.prog 8 #[.agg #[.int .i64 (B0 * 65536), .int .i64 (B1 * 65536), .int .i64 (B2 * 65536), .int .i64 (B3 * 65536), .int .i64 (B4 * 65536), .int .i64 (B5 * 65536)], .agg #[.int .i64 P1, .int .i64 P2]] v (PtR Q1 Q2 v)) ∧
      (∀ v, Calls Try.prog 8 #[.agg #[.int .i64 C0, .int .i64 C1, .int .i64 C2, .int .i64 C3, .int .i64 C4, .int .i64 C5], .agg #[.int .i64 (X * 65536), .int .i64 (Y * 65536)]] v (PtR Q1 Q2 v)) := by
  have p9 : ∀ {s t : Int}, Bd 3 s → Bd 3 t → Bd 9 (s * t) := fun hs ht => hs.mul ht (by omega) (by omega)
  have c0 : Bd 18 (B0 * A0 + B2 * A1) := ((p9 b0 a0).add (p9 b2 a1)).mono (by omega)
  have c1 : Bd 18 (B1 * A0 + B3 * A1) := ((p9 b1 a0).add (p9 b3 a1)).mono (by omega)
  have c2 : Bd 18 (B0 * A2 + B2 * A3) := ((p9 b0 a2).add (p9 b2 a3)).mono (by omega)
  have c3 : Bd 18 (B1 * A2 + B3 * A3) := ((p9 b1 a2).add (p9 b3 a3)).mono (by omega)
  have c4 : Bd 1000 (B0 * A4 + B2 * A5 + B4) := (((p9 b0 a4).add (p9 b2 a5)).add b4).mono (by omega)
  have c5 : Bd 1000 (B1 * A4 + B3 * A5 + B5) := (((p9 b1 a4).add (p9 b3 a5)).add b5).mono (by omega)
  have q1 : Bd 117 (A0 * X + A2 * Y + A4) := (((a0.mul hx (by omega) (by omega)).add (a2.mul hy (by omega) (by omega))).add a4).mono (by omega)
  have q2 : Bd 117 (A1 * X + A3 * Y + A5) := (((a1.mul hx (by omega) (by omega)).add (a3.mul hy (by omega) (by omega))).add a5).mono (by omega)
  refine ⟨(B0 * A0 + B2 * A1) * 65536, (B1 * A0 + B3 * A1) * 65536, (B0 * A2 + B2 * A3) * 65536, (B1 * A2 + B3 * A3) * 65536, (B0 * A4 + B2 * A5 + B4) * 65536, (B1 * A4 + B3 * A5 + B5) * 65536,
    (A0 * X + A2 * Y + A4) * 65536, (A1 * X + A3 * Y + A5) * 65536, (B0 * (A0 * X + A2 * Y + A4) + B2 * (A1 * X + A3 * Y + A5) + B4) * 65536, (B1 * (A0 * X + A2 * Y + A4) + B3 * (A1 * X + A3 * Y + A5) + B5) * 65536, ?_, ?_, ?_, ?_⟩
  · intro v
    have h := matConcat_at (A0 * 65536) (A1 * 65536) (A2 * 65536) (A3 * 65536) (A4 * 65536) (A5 * 65536) (B0 * 65536) (B1 * 65536) (B2 * 65536) (B3 * 65536) (B4 * 65536) (B5 * 65536) v
    have m3 : ∀ {s : Int}, Bd 3 s → Bd 30000 s := fun hs => hs.mono (by omega)
    have m9 : ∀ {s t : Int}, Bd 3 s → Bd 3 t → Bd 10000 (s * t) := fun hs ht => (p9 hs ht).mono (by omega)
    obtain ⟨e1, f1⟩ := wh_lin (m3 b0) (m3 a0) (m3 b2) (m3 a1) (m9 b0 a0) (m9 b2 a1)
    obtain ⟨e2, f2⟩ := wh_lin (m3 b1) (m3 a0) (m3 b3) (m3 a1) (m9 b1 a0) (m9 b3 a1)
    obtain ⟨e3, f3⟩ := wh_lin (m3 b0) (m3 a2) (m3 b2) (m3 a3) (m9 b0 a2) (m9 b2 a3)
    obtain ⟨e4, f4⟩ := wh_lin (m3 b1) (m3 a2) (m3 b3) (m3 a3) (m9 b1 a2) (m9 b3 a3)
    obtain ⟨e5, f5⟩ := wh_lin1 (m3 b0) (m3 a4) (m3 b2) (m3 a5) (m9 b0 a4) (m9 b2 a5) (b4.mono (by omega))
    obtain ⟨e6, f6⟩ := wh_lin1 (m3 b1) (m3 a4) (m3 b3) (m3 a5) (m9 b1 a4) (m9 b3 a5) (b5.mono (by omega))
    unfold ConE MatE conE dltE aplE at h
    rw [e1, e2, e3, e4, e5, e6, f1, f2, f3, f4, f5, f6] at h
    unfold SixR
    simpa [sel, kE] using h
  · exact fun v => wApply A0 A1 A2 A3 A4 A5 X Y 3 19 a0 a1 a2 a3 hx hy (a4.mono (by omega)) (a5.mono (by omega)) (by omega) (by omega) (by omega) (by omega) (by omega) v
  · exact fun v => wApply B0 B1 B2 B3 B4 B5 _ _ 3 117 b0 b1 b2 b3 q1 q2 (b4.mono (by omega)) (b5.mono (by omega)) (by omega) (by omega) (by omega) (by omega) (by omega) v
  · intro v
    have h := wApply _ _ _ _ _ _ X Y 18 19 c0 c1 c2 c3 hx hy c4 c5 (by omega) (by omega) (by omega) (by omega) (by omega) v
    have e1 : (B0 * A0 + B2 * A1) * X + (B0 * A2 + B2 * A3) * Y + (B0 * A4 + B2 * A5 + B4) = B0 * (A0 * X + A2 * Y + A4) + B2 * (A1 * X + A3 * Y + A5) + B4 := by
      simp only [Int.mul_add, Int.add_mul, Int.mul_assoc]; omega
    have e2 : (B1 * A0 + B3 * A1) * X + (B1 * A2 + B3 * A3) * Y + (B1 * A4 + B3 * A5 + B5) = B1 * (A0 * X + A2 * Y + A4) + B3 * (A1 * X + A3 * Y + A5) + B5 := by
      simp only [Int.mul_add, Int.add_mul, Int.mul_assoc]; omega
    rw [e1, e2] at h
    exact h
theorem whole_second (K A4 A5 X Y : Int) (hk : Bd 8 K) (a4 : Bd 3 A4) (a5 : Bd 3 A5) (hx : Bd 19 X) (hy : Bd 19 Y) :
    ∃ V0 V1 V2 V3 V4 V5 T1 T2 : Int,
      (∀ v, Calls Try.prog 17 #[.agg #[.int .i64 65536, .int .i64 (K * 65536), .int .i64 0, .int .i64 65536, .int .i64 (A4 * 65536), .int .i64 (A5 * 65536)]] v (SixR V0 V1 V2 V3 V4 V5 v)) ∧
      (∀ v, Calls Try.prog 8 #[.agg #[.int .i64 65536, .int .i64 (K * 65536), .int .i64 0, .int .i64 65536, .int .i64 (A4 * 65536), .int .i64 (A5 * 65536)], .agg #[.int .i64 (X * 65536), .int .i64 (Y * 65536)]] v (PtR T1 T2 v)) ∧
      (∀ v, Calls Try.prog 8 #[.agg #[.int .i64 V0, .int .i64 V1, .int .i64 V2, .int .i64 V3, .int .i64 V4, .int .i64 V5], .agg #[.int .i64 T1, .int .i64 T2]] v (PtR (X * 65536) (Y * 65536) v)) ∧
      (∀ v, Calls Try.prog 19 #[.agg #[.int .i64 65536, .int .i64 (K * 65536), .int .i64 0, .int .i64 65536, .int .i64 (A4 * 65536), .int .i64 (A5 * 65536)]] v fun e w' => e = .returned (.tuple #[.int .i64 65536, .int .i64 0]) ∧ Below v.heap.size v w') := by
  have b1 : Bd 30000 1 := by unfold Bd; omega
  have b0 : Bd 30000 0 := by unfold Bd; omega
  have o1 : Bd 8 1 := by unfold Bd; omega
  have o0 : Bd 8 0 := by unfold Bd; omega
  have z0 : (0 : Int) = 0 * 65536 := by omega
  have k1 : Bd 30000 K := hk.mono (by omega)
  have f4 := wh_fits (a4.mono (j := 30000) (by omega))
  have f5 := wh_fits (a5.mono (j := 30000) (by omega))
  have fK := wh_fits k1
  have ka : Bd 24 (K * A4) := hk.mul a4 (by omega) (by omega)
  -- the determinant
  have eD : crsV 65536 65536 (K * 65536) 0 = 65536 ∧ crsE 65536 65536 (K * 65536) 0 = 0 := by
    have h1 : mulV 65536 65536 = 65536 := mulV_one fits_o
    have h2 : mulE 65536 65536 = 0 := mulE_one fits_o
    have h3 : mulV (K * 65536) 0 = 0 := mulV_z fK
    have h4 : mulE (K * 65536) 0 = 0 := mulE_z fK
    unfold crsV crsE
    rw [h1, h2, h3, h4]
    decide
  have fn4 : fits ((-A4) * 65536) = true := wh_fits (a4.neg.mono (by omega))
  have fnk : fits ((-K) * 65536) = true := wh_fits (hk.neg.mono (by omega))
  have kb : Bd 27 (K * A4 - A5) := by unfold Bd at *; omega
  have fkb : fits ((K * A4 - A5) * 65536) = true := wh_fits (kb.mono (by omega))
  have s1 : subV 0 (K * 65536) = (-K) * 65536 ∧ subE 0 (K * 65536) = 0 := by
    have h := wh_sub b0 k1 (by unfold Bd at *; omega)
    rw [← z0] at h
    rw [h.1, h.2]; exact ⟨by omega, rfl⟩
  have s2 : subV 0 0 = 0 ∧ subE 0 0 = 0 := by decide
  have s3 : crsV 0 (A5 * 65536) 65536 (A4 * 65536) = (-A4) * 65536 ∧ crsE 0 (A5 * 65536) 65536 (A4 * 65536) = 0 := by
    have h1 : mulV 0 (A5 * 65536) = 0 := mulV_z' f5
    have h2 : mulE 0 (A5 * 65536) = 0 := mulE_z' f5
    have h3 : mulV 65536 (A4 * 65536) = A4 * 65536 := by rw [← mulV_comm]; exact mulV_one f4
    have h4 : mulE 65536 (A4 * 65536) = 0 := by rw [← mulE_comm]; exact mulE_one f4
    unfold crsV crsE
    rw [h1, h2, h3, h4]
    have h := wh_sub b0 (a4.mono (j := 30000) (by omega)) (by unfold Bd at *; omega)
    rw [← z0] at h
    rw [h.1, h.2]; exact ⟨by omega, by simp [kE]⟩
  have s4 : crsV (K * 65536) (A4 * 65536) 65536 (A5 * 65536) = (K * A4 - A5) * 65536 ∧ crsE (K * 65536) (A4 * 65536) 65536 (A5 * 65536) = 0 := by
    obtain ⟨h1, h2⟩ := wh_mul k1 (a4.mono (j := 30000) (by omega)) (ka.mono (by omega))
    have h3 : mulV 65536 (A5 * 65536) = A5 * 65536 := by rw [← mulV_comm]; exact mulV_one f5
    have h4 : mulE 65536 (A5 * 65536) = 0 := by rw [← mulE_comm]; exact mulE_one f5
    unfold crsV crsE
    rw [h1, h2, h3, h4]
    have h := wh_sub (ka.mono (j := 30000) (by omega)) (a5.mono (j := 30000) (by omega)) (kb.mono (by omega))
    rw [h.1, h.2]; exact ⟨rfl, by simp [kE]⟩
  refine ⟨1 * 65536, (-K) * 65536, 0 * 65536, 1 * 65536, (-A4) * 65536, (K * A4 - A5) * 65536, (1 * X + 0 * Y + A4) * 65536, (K * X + 1 * Y + A5) * 65536, ?_, ?_, ?_, ?_⟩
  · intro v
    have h := matInvert_at 65536 (K * 65536) 0 65536 (A4 * 65536) (A5 * 65536) v
    unfold InvE MatE invE at h
    rw [eD.1, eD.2, s1.1, s1.2, s2.1, s2.2, s3.1, s3.2, s4.1, s4.2, divV_one fits_o, divE_one fits_o, divV_one fnk, divE_one fnk, divV_one fits_zero, divE_one fits_zero, divV_one fn4, divE_one fn4, divV_one fkb, divE_one fkb] at h
    unfold SixR
    simpa [sel, kE] using h
  · intro v
    have h := wApply 1 K 0 1 A4 A5 X Y 8 19 o1 hk o0 o1 hx hy (a4.mono (by omega)) (a5.mono (by omega)) (by omega) (by omega) (by omega) (by omega) (by omega) v
    rw [wh_one, Int.zero_mul] at h
    exact h
  · intro v
    have t1 : Bd 174 (1 * X + 0 * Y + A4) := by unfold Bd at *; omega
    have kx : Bd 152 (K * X) := hk.mul hx (by omega) (by omega)
    have t2 : Bd 174 (K * X + 1 * Y + A5) := by unfold Bd at *; omega
    have h := wApply 1 (-K) 0 1 (-A4) (K * A4 - A5) _ _ 8 174 o1 hk.neg o0 o1 t1 t2 (a4.neg.mono (by omega)) (kb.mono (by omega)) (by omega) (by omega) (by omega) (by omega) (by omega) v
    have e1 : 1 * (1 * X + 0 * Y + A4) + 0 * (K * X + 1 * Y + A5) + -A4 = X := by omega
    have e2 : -K * (1 * X + 0 * Y + A4) + 1 * (K * X + 1 * Y + A5) + (K * A4 - A5) = Y := by
      rw [show 1 * X + 0 * Y + A4 = X + A4 by omega, Int.neg_mul, Int.mul_add]; omega
    rw [e1, e2] at h
    exact h
  · intro v
    have hs : ∀ w, Calls Try.prog 48 #[.int .i64 65536] w fun e w' => e = .returned (.tuple #[.int .i64 65536, .int .i64 0]) ∧ w = w' := by
      intro w
      have h := fixSqrt_yes 65536 65536 w (by decide) (by decide) (by decide) (by decide) (by decide)
      rwa [show rootOf (65536 * 65536) 65536 = 65536 by decide] at h
    have h := matScale_at 65536 (K * 65536) 0 65536 (A4 * 65536) (A5 * 65536) 65536 0 v (by rw [eD.1]; simpa using hs)
    rw [eD.1, eD.2] at h
    unfold IntE at h
    simpa [sel, kE] using h
end Go.Proofs.Ytlgjlnbdfpncmaa
