/-
  Plain mathematics of numbers with 16 bits behind the point: which numbers fit, what is answered, how it is rounded. It names nothing of the program.
-/
namespace Go.Proofs.Ytgclgifjjdpapaa.Fx

def fits (n : Int) : Bool := decide (-2147483648 ≤ n) && decide (n ≤ 2147483647)
theorem fits_iff (n : Int) : fits n = true ↔ -2147483648 ≤ n ∧ n ≤ 2147483647 := by simp [fits]
theorem fits_no (n : Int) : fits n = false ↔ n < -2147483648 ∨ 2147483647 < n := by
  rw [← Bool.not_eq_true, fits_iff]; omega

def outV (n : Int) : Int := if fits n = true then n else 0
def outE (n : Int) : Int := if fits n = true then 0 else 18
theorem outV_yes {n : Int} (h : fits n = true) : outV n = n := by simp [outV, h]
theorem outE_yes {n : Int} (h : fits n = true) : outE n = 0 := by simp [outE, h]
theorem outV_no {n : Int} (h : fits n = false) : outV n = 0 := by simp [outV, h]
theorem outE_no {n : Int} (h : fits n = false) : outE n = 18 := by simp [outE, h]

def addV (a b : Int) : Int := if (fits a && fits b) = true then outV (a + b) else 0
def addE (a b : Int) : Int := if (fits a && fits b) = true then outE (a + b) else 11
def subV (a b : Int) : Int := if (fits a && fits b) = true then outV (a - b) else 0
def subE (a b : Int) : Int := if (fits a && fits b) = true then outE (a - b) else 11

def absI (n : Int) : Int := if n < 0 then -n else n
theorem absI_neg {n : Int} (h : n < 0) : absI n = -n := by simp [absI, h]
theorem absI_pos {n : Int} (h : 0 ≤ n) : absI n = n := by simp [absI]; omega
/-- from 0 on: the nearest quotient, of two as near the greater one -/
def nearU (a b : Int) : Int := if 2 * (a % b) < b then a / b else a / b + 1
/-- n by d (not 0), to the nearest, of two as near to the one farther from 0. -/
def near (n d : Int) : Int := if (decide (n < 0) != decide (d < 0)) = true then -(nearU (absI n) (absI d)) else nearU (absI n) (absI d)

def mulV (a b : Int) : Int := if (fits a && fits b) = true then outV (near (a * b) 65536) else 0
def mulE (a b : Int) : Int := if (fits a && fits b) = true then outE (near (a * b) 65536) else 11
def divV (a b : Int) : Int := if (fits a && fits b) = true then (if b = 0 then 0 else outV (near (a * 65536) b)) else 0
def divE (a b : Int) : Int := if (fits a && fits b) = true then (if b = 0 then 18 else outE (near (a * 65536) b)) else 11

theorem prod_bd (a b : Int) (ha1 : -2147483648 ≤ a) (ha2 : a ≤ 2147483648) (hb1 : -2147483648 ≤ b) (hb2 : b ≤ 2147483648) :
    -4611686018427387904 ≤ a * b ∧ a * b ≤ 4611686018427387904 := by
  have h : (a * b).natAbs ≤ 2147483648 * 2147483648 := by
    rw [Int.natAbs_mul]; exact Nat.mul_le_mul (by omega) (by omega)
  omega

/-- the quotient towards 0 and its rest, by the numbers without their signs -/
theorem tdiv_abs (n d : Int) (hd : d ≠ 0) :
    n.tdiv d = (if (decide (n < 0) != decide (d < 0)) = true then -(absI n / absI d) else absI n / absI d) ∧ absI (n.tmod d) = absI n % absI d := by
  have key : ∀ a b : Int, 0 ≤ a → 0 < b → a.tdiv b = a / b ∧ a.tmod b = a % b ∧ 0 ≤ a % b :=
    fun a b ha hb => ⟨Int.tdiv_eq_ediv_of_nonneg ha, Int.tmod_eq_emod_of_nonneg ha, Int.emod_nonneg _ (by omega)⟩
  have abs2 : ∀ r s : Int, 0 ≤ s → (r = s ∨ -r = s) → absI r = s := by
    intro r s h0 h; unfold absI; split <;> omega
  by_cases h1 : n < 0 <;> by_cases h2 : d < 0
  · obtain ⟨k1, k2, k3⟩ := key (-n) (-d) (by omega) (by omega)
    rw [Int.neg_tdiv, Int.tdiv_neg] at k1
    rw [Int.neg_tmod, Int.tmod_neg] at k2
    have hs : (decide (n < 0) != decide (d < 0)) = false := by simp [h1, h2]
    rw [absI_neg h1, absI_neg h2, hs]
    exact ⟨by rw [if_neg (by simp)]; generalize -n / -d = q at *; omega, abs2 _ _ k3 (Or.inr k2)⟩
  · obtain ⟨k1, k2, k3⟩ := key (-n) d (by omega) (by omega)
    rw [Int.neg_tdiv] at k1
    rw [Int.neg_tmod] at k2
    have hs : (decide (n < 0) != decide (d < 0)) = true := by simp [h1, h2]
    rw [absI_neg h1, absI_pos (n := d) (by omega), hs]
    exact ⟨by rw [if_pos rfl]; generalize -n / d = q at *; omega, abs2 _ _ k3 (Or.inr k2)⟩
  · obtain ⟨k1, k2, k3⟩ := key n (-d) (by omega) (by omega)
    rw [Int.tdiv_neg] at k1
    rw [Int.tmod_neg] at k2
    have hs : (decide (n < 0) != decide (d < 0)) = true := by simp [h1, h2]
    rw [absI_neg h2, absI_pos (n := n) (by omega), hs]
    exact ⟨by rw [if_pos rfl]; generalize n / -d = q at *; omega, abs2 _ _ k3 (Or.inl k2)⟩
  · obtain ⟨k1, k2, k3⟩ := key n d (by omega) (by omega)
    have hs : (decide (n < 0) != decide (d < 0)) = false := by simp [h1, h2]
    rw [absI_pos (n := n) (by omega), absI_pos (n := d) (by omega), hs]
    exact ⟨by rw [if_neg (by simp)]; exact k1, abs2 _ _ k3 (Or.inl k2)⟩

theorem near_of (n d : Int) (hd : d ≠ 0) :
    near n d = if 2 * absI (n.tmod d) < absI d then n.tdiv d else if (decide (n < 0) != decide (d < 0)) = true then n.tdiv d - 1 else n.tdiv d + 1 := by
  obtain ⟨h1, h2⟩ := tdiv_abs n d hd
  rw [h1, h2]; unfold near nearU
  generalize (decide (n < 0) != decide (d < 0)) = s
  generalize absI n % absI d = r
  generalize absI n / absI d = q
  cases s <;> by_cases h : 2 * r < absI d <;> simp [h] <;> omega

theorem tdiv_bd (n d : Int) (m : Int) (h1 : -m ≤ n) (h2 : n ≤ m) : -m ≤ n.tdiv d ∧ n.tdiv d ≤ m := by
  have h : (n.tdiv d).natAbs = n.natAbs / d.natAbs := by rw [Int.natAbs_tdiv]; rfl
  have h3 : n.natAbs / d.natAbs ≤ n.natAbs := Nat.div_le_self _ _
  rw [← h] at h3
  omega

theorem absI_nonneg (n : Int) : 0 ≤ absI n := by unfold absI; split <;> omega
theorem absI_le (n m : Int) (h1 : -m ≤ n) (h2 : n ≤ m) : absI n ≤ m := by unfold absI; split <;> omega
theorem absI_ne (n : Int) (h : n ≠ 0) : 0 < absI n := by unfold absI; split <;> omega
theorem tmod_lt (n d : Int) (hd : d ≠ 0) : absI (n.tmod d) < absI d := by
  rw [(tdiv_abs n d hd).2]; exact Int.emod_lt_of_pos _ (absI_ne d hd)
theorem tmod_bd (n d : Int) (hd : d ≠ 0) (m : Int) (h1 : -m ≤ d) (h2 : d ≤ m) : -m ≤ n.tmod d ∧ n.tmod d ≤ m := by
  have h := tmod_lt n d hd
  have h3 := absI_le d m h1 h2
  unfold absI at h h3; split at h <;> split at h <;> simp_all <;> omega

theorem emod_bd (a b : Int) (hb : 0 < b) : 0 ≤ a % b ∧ a % b < b := ⟨Int.emod_nonneg _ (by omega), Int.emod_lt_of_pos _ hb⟩
theorem ediv_bd (a b : Int) (ha : 0 ≤ a) (hb : 0 < b) : 0 ≤ a / b ∧ a / b ≤ a := ⟨Int.ediv_nonneg ha (by omega), Int.ediv_le_self _ ha⟩
theorem nearU_bd (a b : Int) (ha : 0 ≤ a) (hb : 0 < b) : 0 ≤ nearU a b ∧ nearU a b ≤ a + 1 := by
  have h1 : 0 ≤ a / b := Int.ediv_nonneg ha (by omega)
  have h2 : a / b ≤ a := Int.ediv_le_self _ ha
  unfold nearU; split <;> omega
theorem near_bd (n d : Int) (hd : d ≠ 0) (m : Int) (h1 : -m ≤ n) (h2 : n ≤ m) : -m - 1 ≤ near n d ∧ near n d ≤ m + 1 := by
  have h := nearU_bd (absI n) (absI d) (absI_nonneg n) (absI_ne d hd)
  have h3 := absI_le n m h1 h2
  unfold near; split <;> omega
end Go.Proofs.Ytgclgifjjdpapaa.Fx
