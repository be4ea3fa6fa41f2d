/-
  Plain mathematics of numbers with 16 bits behind the point: which numbers fit, what is answered, how it is rounded. It names nothing of the program.
-/
namespace Go.Proofs.YtfilbfenpdaahaaGreatDoor.Fx

def fits (n : Int) : Bool := decide (-2147483648 ≤ n) && decide (n ≤ 2147483647)
theorem fits_iff (n : Int) : fits n = true ↔ -2147483648 ≤ n ∧ n ≤ 2147483647 := by simp [fits]
theorem fits_no (n : Int) : fits n = false ↔ n < -2147483648 ∨ 2147483647 < n := by
  rw [← Bool.not_eq_true, fits_iff]; omega

def outV (n : Int) : Int := if fits n = true then n else 0
def outE (n : Int) : Int := if fits n = true then 0 else 18
theorem outV_yes {n : Int} (h : fits n = true) : outV n = n := by simp [outV, h]
theorem outE_yes {n : Int} (h : fits n = true) : outE n = 0 := by simp [outE, h]
theorem outV_no {n : Int} (h : fits n = false) : outV n = 0 := by simp [outV, h]
theorem outE_no {n : Int} (h : fits n = false) : outE n = 18 := by simp [outE, h]

def addV (a b : Int) : Int := if (fits a && fits b) = true then outV (a + b) else 0
def addE (a b : Int) : Int := if (fits a && fits b) = true then outE (a + b) else 11
def subV (a b : Int) : Int := if (fits a && fits b) = true then outV (a - b) else 0
def subE (a b : Int) : Int := if (fits a && fits b) = true then outE (a - b) else 11

def absI (n : Int) : Int := if n < 0 then -n else n
theorem absI_neg {n : Int} (h : n < 0) : absI n = -n := by simp [absI, h]
theorem absI_pos {n : Int} (h : 0 ≤ n) : absI n = n := by simp [absI]; omega
/-- from 0 on: the nearest quotient, of two as near the greater one -/
def nearU (a b : Int) : Int := if 2 * (a % b) < b then a / b else a / b + 1
/-- n by d (not 0), to the nearest, of two as near to the one farther from 0. -/
def near (n d : Int) : Int := if (decide (n < 0) != decide (d < 0)) = true then -(nearU (absI n) (absI d)) else nearU (absI n) (absI d)

def mulV (a b : Int) : Int := if (fits a && fits b) = true then outV (near (a * b) 65536) else 0
def mulE (a b : Int) : Int := if (fits a && fits b) = true then outE (near (a * b) 65536) else 11
def divV (a b : Int) : Int := if (fits a && fits b) = true then (if b = 0 then 0 else outV (near (a * 65536) b)) else 0
def divE (a b : Int) : Int := if (fits a && fits b) = true then (if b = 0 then 18 else outE (near (a * 65536) b)) else 11

theorem prod_bd (a b : Int) (ha1 : -2147483648 ≤ a) (ha2 : a ≤ 2147483648) (hb1 : -2147483648 ≤ b) (hb2 : b ≤ 2147483648) :
    -4611686018427387904 ≤ a * b ∧ a * b ≤ 4611686018427387904 := by
  have h : (a * b).natAbs ≤ 2147483648 * 2147483648 := by
    rw [Int.natAbs_mul]; exact Nat.mul_le_mul (by omega) (by omega)
  omega

/-- the quotient towards 0 and its rest, by the numbers without their signs -/
theorem tdiv_abs (n d : Int) (hd : d ≠ 0) :
    n.tdiv d = (if (decide (n < 0) != decide (d < 0)) = true then -(absI n / absI d) else absI n / absI d) ∧ absI (n.tmod d) = absI n % absI d := by
  have key : ∀ a b : Int, 0 ≤ a → 0 < b → a.tdiv b = a / b ∧ a.tmod b = a % b ∧ 0 ≤ a % b :=
    fun a b ha hb => ⟨Int.tdiv_eq_ediv_of_nonneg ha, Int.tmod_eq_emod_of_nonneg ha, Int.emod_nonneg _ (by omega)⟩
  have abs2 : ∀ r s : Int, 0 ≤ s → (r = s ∨ -r = s) → absI r = s := by
    intro r s h0 h; unfold absI; split <;> omega
  by_cases h1 : n < 0 <;> by_cases h2 : d < 0
  · obtain ⟨k1, k2, k3⟩ := key (-n) (-d) (by omega) (by omega)
    rw [Int.neg_tdiv, Int.tdiv_neg] at k1
    rw [Int.neg_tmod, Int.tmod_neg] at k2
    have hs : (decide (n < 0) != decide (d < 0)) = false := by simp [h1, h2]
    rw [absI_neg h1, absI_neg h2, hs]
    exact ⟨by rw [if_neg (by simp)]; generalize -n / -d = q at *; omega, abs2 _ _ k3 (Or.inr k2)⟩
  · obtain ⟨k1, k2, k3⟩ := key (-n) d (by omega) (by omega)
    rw [Int.neg_tdiv] at k1
    rw [Int.neg_tmod] at k2
    have hs : (decide (n < 0) != decide (d < 0)) = true := by simp [h1, h2]
    rw [absI_neg h1, absI_pos (n := d) (by omega), hs]
    exact ⟨by rw [if_pos rfl]; generalize -n / d = q at *; omega, abs2 _ _ k3 (Or.inr k2)⟩
  · obtain ⟨k1, k2, k3⟩ := key n (-d) (by omega) (by omega)
    rw [Int.tdiv_neg] at k1
    rw [Int.tmod_neg] at k2
    have hs : (decide (n < 0) != decide (d < 0)) = true := by simp [h1, h2]
    rw [absI_neg h2, absI_pos (n := n) (by omega), hs]
    exact ⟨by rw [if_pos rfl]; generalize n / -d = q at *; omega, abs2 _ _ k3 (Or.inl k2)⟩
  · obtain ⟨k1, k2, k3⟩ := key n d (by omega) (by omega)
    have hs : (decide (n < 0) != decide (d < 0)) = false := by simp [h1, h2]
    rw [absI_pos (n := n) (by omega), absI_pos (n := d) (by omega), hs]
    exact ⟨by rw [if_neg (by simp)]; exact k1, abs2 _ _ k3 (Or.inl k2)⟩

theorem near_of (n d : Int) (hd : d ≠ 0) :
    near n d = if 2 * absI (n.tmod d) < absI d then n.tdiv d else if (decide (n < 0) != decide (d < 0)) = true then n.tdiv d - 1 else n.tdiv d + 1 := by
  obtain ⟨h1, h2⟩ := tdiv_abs n d hd
  rw [h1, h2]; unfold near nearU
  generalize (decide (n < 0) != decide (d < 0)) = s
  generalize absI n % absI d = r
  generalize absI n / absI d = q
  cases s <;> by_cases h : 2 * r < absI d <;> simp [h] <;> omega

theorem tdiv_bd (n d : Int) (m : Int) (h1 : -m ≤ n) (h2 : n ≤ m) : -m ≤ n.tdiv d ∧ n.tdiv d ≤ m := by
  have h : (n.tdiv d).natAbs = n.natAbs / d.natAbs := by rw [Int.natAbs_tdiv]; rfl
  have h3 : n.natAbs / d.natAbs ≤ n.natAbs := Nat.div_le_self _ _
  rw [← h] at h3
  omega

theorem absI_nonneg (n : Int) : 0 ≤ absI n := by unfold absI; split <;> omega
theorem absI_le (n m : Int) (h1 : -m ≤ n) (h2 : n ≤ m) : absI n ≤ m := by unfold absI; split <;> omega
theorem absI_ne (n : Int) (h : n ≠ 0) : 0 < absI n := by unfold absI; split <;> omega
theorem tmod_lt (n d : Int) (hd : d ≠ 0) : absI (n.tmod d) < absI d := by
  rw [(tdiv_abs n d hd).2]; exact Int.emod_lt_of_pos _ (absI_ne d hd)
theorem tmod_bd (n d : Int) (hd : d ≠ 0) (m : Int) (h1 : -m ≤ d) (h2 : d ≤ m) : -m ≤ n.tmod d ∧ n.tmod d ≤ m := by
  have h := tmod_lt n d hd
  have h3 := absI_le d m h1 h2
  unfold absI at h h3; split at h <;> split at h <;> simp_all <;> omega

theorem emod_bd (a b : Int) (hb : 0 < b) : 0 ≤ a % b ∧ a % b < b := ⟨Int.emod_nonneg _ (by omega), Int.emod_lt_of_pos _ hb⟩
theorem ediv_bd (a b : Int) (ha : 0 ≤ a) (hb : 0 < b) : 0 ≤ a / b ∧ a / b ≤ a := ⟨Int.ediv_nonneg ha (by omega), Int.ediv_le_self _ ha⟩
theorem nearU_bd (a b : Int) (ha : 0 ≤ a) (hb : 0 < b) : 0 ≤ nearU a b ∧ nearU a b ≤ a + 1 := by
  have h1 : 0 ≤ a / b := Int.ediv_nonneg ha (by omega)
  have h2 : a / b ≤ a := Int.ediv_le_self _ ha
  unfold nearU; split <;> omega
theorem near_bd (n d : Int) (hd : d ≠ 0) (m : Int) (h1 : -m ≤ n) (h2 : n ≤ m) : -m - 1 ≤ near n d ∧ near n d ≤ m + 1 := by
  have h := nearU_bd (absI n) (absI d) (absI_nonneg n) (absI_ne d hd)
  have h3 := absI_le n m h1 h2
  unfold near; split <;> omega

theorem near_mul (x d : Int) (hd : 0 < d) : near (x * d) d = x := by
  rw [near_of _ _ (by omega), Int.mul_tdiv_cancel _ (by omega), Int.mul_tmod_left]
  rw [if_pos]
  rw [absI_pos (n := d) (by omega)]; simp [absI]; omega
theorem near_comm (a b d : Int) : near (a * b) d = near (b * a) d := by rw [Int.mul_comm]
theorem mulV_one {x : Int} (h : fits x = true) : mulV x 65536 = x := by
  have h2 : fits 65536 = true := by decide
  simp only [mulV, h, h2, Bool.and_self, if_true, near_mul x 65536 (by omega), outV_yes h]
theorem mulE_one {x : Int} (h : fits x = true) : mulE x 65536 = 0 := by
  have h2 : fits 65536 = true := by decide
  simp only [mulE, h, h2, Bool.and_self, if_true, near_mul x 65536 (by omega), outE_yes h]
theorem divV_one {x : Int} (h : fits x = true) : divV x 65536 = x := by
  have h2 : fits 65536 = true := by decide
  simp [divV, h, h2, near_mul x 65536 (by omega), outV_yes h]
theorem divE_one {x : Int} (h : fits x = true) : divE x 65536 = 0 := by
  have h2 : fits 65536 = true := by decide
  simp [divE, h, h2, near_mul x 65536 (by omega), outE_yes h]
theorem mulV_comm (a b : Int) : mulV b a = mulV a b := by
  unfold mulV; rw [Bool.and_comm, Int.mul_comm]
theorem mulE_comm (a b : Int) : mulE b a = mulE a b := by
  unfold mulE; rw [Bool.and_comm, Int.mul_comm]
theorem addV_comm (a b : Int) : addV b a = addV a b := by
  unfold addV; rw [Bool.and_comm, Int.add_comm]
theorem addE_comm (a b : Int) : addE b a = addE a b := by
  unfold addE; rw [Bool.and_comm, Int.add_comm]

/-- twice the distance of n from what it is rounded to, d above 0 -/
theorem near_D (n d : Int) (hd : 0 < d) :
    (0 ≤ n → -d ≤ 2 * (n - near n d * d) ∧ 2 * (n - near n d * d) < d) ∧ (n < 0 → -d < 2 * (n - near n d * d) ∧ 2 * (n - near n d * d) ≤ d) := by
  have key : ∀ m : Int, 0 ≤ m → -d ≤ 2 * (m - nearU m d * d) ∧ 2 * (m - nearU m d * d) < d := by
    intro m hm
    have h1 := Int.emod_add_mul_ediv m d
    obtain ⟨h2, h3⟩ := emod_bd m d hd
    unfold nearU
    generalize m / d = q at *
    generalize m % d = r at *
    have h4 : q * d = d * q := Int.mul_comm _ _
    have h5 : (q + 1) * d = d * q + d := by rw [Int.add_mul]; omega
    split
    · rw [h4]; omega
    · rw [h5]; omega
  have h3 : absI d = d := absI_pos (by omega)
  constructor
  · intro h
    have e : near n d = nearU n d := by
      unfold near; rw [if_neg (by simp; omega), absI_pos h, h3]
    rw [e]; exact key n h
  · intro h
    have e : near n d = -nearU (-n) d := by
      unfold near; rw [if_pos (by simp; omega), absI_neg h, h3]
    have := key (-n) (by omega)
    rw [e, Int.neg_mul]; omega
theorem near_neg (n d : Int) (hd : d < 0) : near n d * d = near n (-d) * (-d) := by
  have h1 : absI d = absI (-d) := by rw [absI_neg hd, absI_pos (by omega)]
  have e : near n d = -near n (-d) ∨ (near n d = 0 ∧ near n (-d) = 0) := by
    by_cases h0 : n = 0
    · right
      subst h0
      have : nearU 0 (absI (-d)) = 0 := by
        unfold nearU; have := absI_ne (-d) (by omega); simp; omega
      unfold near
      rw [h1]
      have e0 : absI 0 = 0 := by decide
      rw [e0, this]; simp
    · left
      unfold near
      rw [h1]
      by_cases h : n < 0
      · rw [if_neg (by simp; omega), if_pos (by simp; omega)]; omega
      · rw [if_pos (by simp; omega), if_neg (by simp; omega)]
  rcases e with e | ⟨e1, e2⟩
  · rw [e, Int.neg_mul, Int.mul_neg]
  · rw [e1, e2]; simp
theorem near_close (n d : Int) (hd : d ≠ 0) : -absI d ≤ 2 * (n - near n d * d) ∧ 2 * (n - near n d * d) ≤ absI d := by
  by_cases h : d < 0
  · have h1 := near_D n (-d) (by omega)
    rw [near_neg n d h, absI_neg h]
    by_cases hn : n < 0
    · have := h1.2 hn; omega
    · have := h1.1 (by omega); omega
  · have h1 := near_D n d (by omega)
    rw [absI_pos (by omega)]
    by_cases hn : n < 0
    · have := h1.2 hn; omega
    · have := h1.1 (by omega); omega

/-- the greatest multiple of One that is not above -/
def flo (a : Int) : Int := a - a % 65536
theorem flo_bd (a : Int) : a - 65535 ≤ flo a ∧ flo a ≤ a ∧ flo a % 65536 = 0 := by unfold flo; omega
def floV (a : Int) : Int := if fits a = true then flo a else 0
def ceilV (a : Int) : Int := if fits a = true then outV (flo (a + 65535)) else 0
def ceilE (a : Int) : Int := if fits a = true then outE (flo (a + 65535)) else 11
def rouV (a : Int) : Int := if fits a = true then outV (flo (a + 32768)) else 0
def rouE (a : Int) : Int := if fits a = true then outE (flo (a + 32768)) else 11
def truV (a : Int) : Int := if fits a = true then a.tdiv 65536 * 65536 else 0
def frV (n : Int) : Int := if (decide (-32768 ≤ n) && decide (n ≤ 32767)) = true then n * 65536 else 0
def frE (n : Int) : Int := if (decide (-32768 ≤ n) && decide (n ≤ 32767)) = true then 0 else 11
theorem tdiv_one_bd (a : Int) (h : fits a = true) : -32768 ≤ a.tdiv 65536 ∧ a.tdiv 65536 ≤ 32767 := by
  obtain ⟨h1, h2⟩ := (fits_iff a).1 h
  by_cases h0 : a < 0
  · have := Int.neg_tdiv (a := a) (b := 65536)
    rw [Int.tdiv_eq_ediv_of_nonneg (by omega)] at this
    omega
  · rw [Int.tdiv_eq_ediv_of_nonneg (by omega)]; omega
theorem tmod_one (a : Int) (h : a < 0) : a.tmod 65536 = -(-a % 65536) := by
  have := Int.neg_tmod (a := a) (b := 65536)
  rw [Int.tmod_eq_emod_of_nonneg (by omega)] at this
  omega
theorem tdiv_one (a : Int) (h : a < 0) : a.tdiv 65536 = -(-a / 65536) := by
  have := Int.neg_tdiv (a := a) (b := 65536)
  rw [Int.tdiv_eq_ediv_of_nonneg (by omega)] at this
  omega
end Go.Proofs.YtfilbfenpdaahaaGreatDoor.Fx
