/-
  Rolling a list, plainly.
-/
import Derived.Test.YtcmoppliipdfgaaRows
namespace Go.Proofs.Ytcmoppliipdfgaa
namespace Stk
variable {α : Type}
/-- the last u come ahead of the others -/
def rot (u : Nat) (t : List α) : List α := t.drop (t.length - u) ++ t.take (t.length - u)
theorem rot_len (u : Nat) (t : List α) : (rot u t).length = t.length := by
  unfold rot
  rw [List.length_append, List.length_drop, List.length_take]
  omega
theorem rot_at {u : Nat} {t : List α} (hu : u ≤ t.length) {p : Nat} (hp : p < t.length) : (rot u t)[p]? = if p < u then t[t.length - u + p]? else t[p - u]? := by
  unfold rot
  by_cases h : p < u
  · rw [if_pos h, List.getElem?_append_left (by simp; omega), List.getElem?_drop]
  · rw [if_neg h, List.getElem?_append_right (by simp; omega), List.length_drop, List.getElem?_take]
    have e : p - (t.length - (t.length - u)) = p - u := by omega
    rw [e, if_pos (by omega)]
theorem rot_zero (t : List α) : rot 0 t = t := by simp [rot]
theorem rot_all (t : List α) : rot t.length t = t := by simp [rot]
theorem rot_rot {u v : Nat} {t : List α} (hu : u ≤ t.length) (hv : v ≤ t.length) : rot v (rot u t) = rot (if u + v ≤ t.length then u + v else u + v - t.length) t := by
  have hl := rot_len u t
  apply List.ext_getElem?
  intro p
  by_cases hp : p < t.length
  · rw [rot_at (by rw [hl]; exact hv) (by rw [hl]; exact hp), hl]
    by_cases h : u + v ≤ t.length
    · rw [if_pos h, rot_at h hp]
      by_cases h1 : p < v
      · rw [if_pos h1, if_pos (by omega), rot_at hu (by omega), if_neg (by omega)]
        congr 1; omega
      · rw [if_neg h1, rot_at hu (by omega)]
        by_cases h2 : p - v < u
        · rw [if_pos h2, if_pos (by omega)]; congr 1; omega
        · rw [if_neg h2, if_neg (by omega)]; congr 1; omega
    · rw [if_neg h, rot_at (by omega) hp]
      by_cases h1 : p < v
      · rw [if_pos h1, rot_at hu (by omega)]
        by_cases h2 : t.length - v + p < u
        · rw [if_pos h2, if_pos (by omega)]; congr 1; omega
        · rw [if_neg h2, if_neg (by omega)]; congr 1; omega
      · rw [if_neg h1, rot_at hu (by omega), if_pos (by omega), if_neg (by omega)]
        congr 1; omega
  · rw [List.getElem?_eq_none (by rw [rot_len, rot_len]; omega), List.getElem?_eq_none (by rw [rot_len]; omega)]
/-- the n last ones are rolled by u -/
def rol (n u : Nat) (l : List α) : List α := l.take (l.length - n) ++ rot u (l.drop (l.length - n))
theorem rol_len (n u : Nat) (l : List α) : (rol n u l).length = l.length := by
  unfold rol
  rw [List.length_append, rot_len, List.length_take, List.length_drop]
  omega
theorem rol_none (u : Nat) (l : List α) : rol 0 u l = l := by simp [rol, rot]
theorem rol_zero (n : Nat) (l : List α) : rol n 0 l = l := by simp [rol, rot_zero]
theorem rol_rol {n u v : Nat} {l : List α} (hn : n ≤ l.length) (hu : u ≤ n) (hv : v ≤ n) : rol n v (rol n u l) = rol n (if u + v ≤ n then u + v else u + v - n) l := by
  have hl := rol_len n u l
  have hd : (l.drop (l.length - n)).length = n := by rw [List.length_drop]; omega
  have ht : (l.take (l.length - n)).length = l.length - n := by rw [List.length_take]; omega
  unfold rol at hl ⊢
  rw [hl, List.take_append_of_le_length (by omega), List.take_of_length_le (by omega), List.drop_append_of_le_length (by omega), List.drop_eq_nil_of_le (by omega), List.nil_append, rot_rot (by omega) (by omega), hd]
theorem rol_all {n : Nat} {l : List α} (hn : n ≤ l.length) : rol n n l = l := by
  have hd : (l.drop (l.length - n)).length = n := by rw [List.length_drop]; omega
  unfold rol
  have := rot_all (l.drop (l.length - n))
  rw [hd] at this
  rw [this, List.take_append_drop]
/-- how far up j of n is -/
def upOf (n : Nat) (j : Int) : Nat := (j % (n : Int)).toNat
theorem upOf_lt {n : Nat} (hn : 0 < n) (j : Int) : upOf n j < n := by
  unfold upOf
  have h1 := Int.emod_nonneg j (show (n : Int) ≠ 0 by omega)
  have h2 := Int.emod_lt_of_pos j (show (0 : Int) < n by omega)
  omega
theorem upOf_cast {n : Nat} (hn : 0 < n) (j : Int) : ((upOf n j : Nat) : Int) = j % (n : Int) := by
  unfold upOf
  have h1 := Int.emod_nonneg j (show (n : Int) ≠ 0 by omega)
  omega
/-- as the code reckons it -/
theorem up_code {n : Nat} (hn : 0 < n) (j : Int) : (j.tmod n + n).tmod n = upOf n j := by
  rw [upOf_cast hn]
  have hp : (0 : Int) < n := by omega
  have h1 := Int.emod_nonneg j (show (n : Int) ≠ 0 by omega)
  have h2 := Int.emod_lt_of_pos j hp
  have h3 : -(n : Int) < j.tmod n := Int.lt_tmod_of_pos j hp
  rw [Int.tmod_eq_emod_of_nonneg (by omega), Int.add_emod_right]
  rw [Int.tmod_eq_emod]
  split
  · simp
  · have : (j % (n:Int) - (n : Int).natAbs) % (n : Int) = j % (n:Int) := by
      have : ((n : Int).natAbs : Int) = (n : Int) := by omega
      rw [this, Int.sub_emod_right, Int.emod_emod_of_dvd _ (Int.dvd_refl _)]
    exact this
/-- as the law reckons it -/
theorem up_law {n : Nat} (hn : 0 < n) (j : Int) : (if j.tmod n < 0 then j.tmod n + n else j.tmod n) = upOf n j := by
  have hp : (0 : Int) < n := by omega
  rw [← up_code hn j]
  have h3 : -(n : Int) < j.tmod n := Int.lt_tmod_of_pos j hp
  have h4 : j.tmod n < n := Int.tmod_lt_of_pos j hp
  generalize j.tmod n = x at h3 h4 ⊢
  split
  · rw [Int.tmod_eq_of_lt (by omega) (by omega)]
  · rw [Int.tmod_eq_emod_of_nonneg (by omega), Int.add_emod_right, Int.emod_eq_of_lt (by omega) (by omega)]
theorem up_neg {n : Nat} (hn : 0 < n) (j : Int) : upOf n j + upOf n (-j) = 0 ∨ upOf n j + upOf n (-j) = n := by
  have e1 := upOf_cast hn j
  have e2 := upOf_cast hn (-j)
  have l1 := upOf_lt hn j
  have l2 := upOf_lt hn (-j)
  have hp : (n : Int) ≠ 0 := by omega
  have h : (((upOf n j : Nat) : Int) + ((upOf n (-j) : Nat) : Int)) % (n : Int) = 0 := by
    rw [e1, e2, ← Int.add_emod, Int.add_right_neg, Int.zero_emod]
  by_cases h0 : upOf n j + upOf n (-j) < n
  · left
    rw [Int.emod_eq_of_lt (by omega) (by omega)] at h
    omega
  · right
    have := Int.sub_emod_right (((upOf n j : Nat) : Int) + ((upOf n (-j) : Nat) : Int)) (n : Int)
    rw [h, Int.emod_eq_of_lt (by omega) (by omega)] at this
    omega
theorem rol_back {n : Nat} {l : List α} (hn : n ≤ l.length) (h0 : 0 < n) (j : Int) : rol n (upOf n (-j)) (rol n (upOf n j) l) = l := by
  have l1 := upOf_lt h0 j
  have l2 := upOf_lt h0 (-j)
  rw [rol_rol hn (by omega) (by omega)]
  rcases up_neg h0 j with e | e
  · rw [e, if_pos (by omega), rol_zero]
  · rw [e, if_pos (Nat.le_refl _), rol_all hn]
theorem rol_step {n i : Nat} {l : List α} (hn : n ≤ l.length) (hi : i < n) : rol n (upOf n 1) (rol n i l) = rol n (i + 1) l := by
  by_cases h1 : n = 1
  · subst h1
    have e : upOf 1 1 = 0 := by decide
    have e2 : i = 0 := by omega
    rw [e, e2, rol_zero, rol_zero, rol_all hn]
  · have e : upOf n 1 = 1 := by
      unfold upOf
      rw [Int.emod_eq_of_lt (by omega) (by omega)]; rfl
    rw [e, rol_rol hn (by omega) (by omega), if_pos (by omega)]
/-- the law's own rolling: k are laid -/
def Laid (n u k : Nat) (l x : List α) : Prop := x.length = l.length ∧ (∀ p, p < l.length - n → x[p]? = l[p]?) ∧ ∀ i, i < k → x[l.length - n + (i + u) % n]? = l[l.length - n + i]?
theorem Laid.start (n u : Nat) (l : List α) : Laid n u 0 l l := ⟨rfl, fun _ _ => rfl, fun i hi => by omega⟩
theorem Laid.next {n u k : Nat} {l x : List α} {o : α} (h : Laid n u k l x) (hn : n ≤ l.length) (hk : k < n) (ho : l[l.length - n + k]? = some o) : Laid n u (k + 1) l (x.set (l.length - n + (k + u) % n) o) := by
  obtain ⟨h1, h2, h3⟩ := h
  have hm : (k + u) % n < n := Nat.mod_lt _ (by omega)
  refine ⟨by rw [List.length_set]; exact h1, fun p hp => ?_, fun i hi => ?_⟩
  · rw [List.getElem?_set_ne (by omega)]; exact h2 p hp
  · by_cases e : i = k
    · subst e
      rw [List.getElem?_set_self (by omega), ho]
    · by_cases e2 : (i + u) % n = (k + u) % n
      · exfalso
        have a1 := Nat.div_add_mod (i + u) n
        have a2 := Nat.div_add_mod (k + u) n
        rw [e2] at a1
        rcases Nat.lt_trichotomy ((i + u) / n) ((k + u) / n) with h | h | h
        · have := Nat.mul_le_mul_left n (Nat.succ_le_of_lt h)
          rw [Nat.mul_succ] at this
          omega
        · rw [h] at a1; omega
        · have := Nat.mul_le_mul_left n (Nat.succ_le_of_lt h)
          rw [Nat.mul_succ] at this
          omega
      · rw [List.getElem?_set_ne (by omega)]
        exact h3 i (by omega)
theorem Laid.done {n u : Nat} {l x : List α} (h : Laid n u n l x) (hn : n ≤ l.length) (hu : u < n) : x = rol n u l := by
  obtain ⟨h1, h2, h3⟩ := h
  have hd : (l.drop (l.length - n)).length = n := by rw [List.length_drop]; omega
  have ht : (l.take (l.length - n)).length = l.length - n := by rw [List.length_take]; omega
  apply List.ext_getElem?
  intro p
  unfold rol
  by_cases hp : p < l.length - n
  · rw [List.getElem?_append_left (by omega), List.getElem?_take, if_pos hp]
    exact h2 p hp
  · rw [List.getElem?_append_right (by omega), ht]
    by_cases hq : p < l.length
    · obtain ⟨q, hq2⟩ : ∃ q, q = p - (l.length - n) := ⟨_, rfl⟩
      have e : p = l.length - n + q := by omega
      have hqn : q < n := by omega
      rw [← hq2, rot_at (by omega) (by omega), hd, List.getElem?_drop, List.getElem?_drop]
      by_cases hqu : q < u
      · rw [if_pos hqu]
        have := h3 (n - u + q) (by omega)
        rw [show n - u + q + u = q + n by omega, Nat.add_mod_right, Nat.mod_eq_of_lt hqn] at this
        rw [e]; exact this
      · rw [if_neg hqu]
        have := h3 (q - u) (by omega)
        rw [show q - u + u = q by omega, Nat.mod_eq_of_lt hqn] at this
        rw [e]; exact this
    · rw [List.getElem?_eq_none (by omega), List.getElem?_eq_none (by rw [rot_len, hd]; omega)]
end Stk
end Go.Proofs.Ytcmoppliipdfgaa
