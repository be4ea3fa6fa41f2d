/-
  Plain mathematics: the number that digits are, doubled without loss; a number's text is read as it.
-/
import Derived.Test.YtfilbfenpdaahaaGreatDoorDecToken2
import Derived.Test.YtfilbfenpdaahaaGreatDoorDecCut
namespace Go.Proofs.YtfilbfenpdaahaaGreatDoor
open Go.RowKit
open Fx Dc
namespace Dc
/-- digits as a number -/
def numV : List Nat → Nat
  | [] => 0
  | d :: r => d * 10 ^ r.length + numV r
theorem numV_lt {l : List Nat} (h : digs l) : numV l < 10 ^ l.length := by
  induction l with
  | nil => simp [numV]
  | cons d r ih =>
    have h1 := h d (List.mem_cons_self ..)
    have h2 := ih (fun x hx => h x (List.mem_cons_of_mem _ hx))
    simp only [numV, List.length_cons, Nat.pow_succ]
    have h3 : d * 10 ^ r.length ≤ 9 * 10 ^ r.length := Nat.mul_le_mul_right _ h1
    omega
theorem numV_app (a b : List Nat) : numV (a ++ b) = numV a * 10 ^ b.length + numV b := by
  induction a with
  | nil => simp [numV]
  | cons d r ih =>
    simp only [List.cons_append, numV, List.length_append, ih, Nat.pow_add, Nat.add_mul, Nat.mul_assoc]
    omega
theorem dbl_val (l : List Nat) : 2 * numV l = (dbl l).2 * 10 ^ l.length + numV (dbl l).1 := by
  induction l with
  | nil => simp [numV, dbl]
  | cons d r ih =>
    rw [dbl_cons]
    simp only [numV, List.length_cons, dbl_len, Nat.pow_succ]
    obtain ⟨c, hc⟩ : ∃ c, (dbl r).2 = c := ⟨_, rfl⟩
    rw [hc] at ih ⊢
    obtain ⟨P, hP⟩ : ∃ P, 10 ^ r.length = P := ⟨_, rfl⟩
    rw [hP] at ih ⊢
    have hdm : 2 * d + c = 10 * ((2 * d + c) / 10) + (2 * d + c) % 10 := by omega
    generalize (2 * d + c) / 10 = q at hdm ⊢
    generalize (2 * d + c) % 10 = m at hdm ⊢
    have e1 : 2 * (d * P + numV r) = (2 * d) * P + 2 * numV r := by rw [Nat.mul_add, Nat.mul_assoc]
    have e2 : (2 * d) * P + c * P = (2 * d + c) * P := by rw [Nat.add_mul]
    have e3 : (2 * d + c) * P = q * (P * 10) + m * P := by
      rw [hdm, Nat.add_mul, Nat.mul_comm 10 q, Nat.mul_assoc, Nat.mul_comm 10 P]
    omega
theorem dbls_val (k : Nat) (l : List Nat) : 2 ^ k * numV l = (dbls k l).2 * 10 ^ l.length + numV (dbls k l).1 := by
  induction k with
  | zero => simp [dbls]
  | succ k ih =>
    have h := dbl_val (dbls k l).1
    rw [dbls_len] at h
    simp only [dbls]
    rw [Nat.pow_succ, Nat.mul_comm (2 ^ k) 2, Nat.mul_assoc, ih, Nat.mul_add, h, Nat.add_mul, Nat.mul_assoc 2]
    omega
/-- digits that say r parts of One exactly: 16 doublings lead r over the point, and nothing is left -/
theorem exact_frac {F : List Nat} (hF : digs F) (r : Nat) (h : 65536 * numV F = r * 10 ^ F.length) : (dbls 16 F).2 = r ∧ (dbl (dbls 16 F).1).2 = 0 := by
  have h1 := dbls_val 16 F
  have h16 : (2 : Nat) ^ 16 = 65536 := by decide
  rw [h16, h] at h1
  have h2 := numV_lt (dbls_digs 16 F hF)
  rw [dbls_len] at h2
  have hP : 0 < 10 ^ F.length := Nat.pow_pos (by omega)
  obtain ⟨P, hPe⟩ : ∃ P, 10 ^ F.length = P := ⟨_, rfl⟩
  rw [hPe] at h1 h2 hP
  have h3 : (dbls 16 F).2 = r := by
    have e1 : r * P / P = r := Nat.mul_div_cancel _ hP
    have e2 : ((dbls 16 F).2 * P + numV (dbls 16 F).1) / P = (dbls 16 F).2 := by
      rw [Nat.add_comm, Nat.add_mul_div_right _ _ hP, Nat.div_eq_of_lt h2, Nat.zero_add]
    rw [← e1, h1, e2]
  refine ⟨h3, ?_⟩
  rw [h3] at h1
  have h4 : numV (dbls 16 F).1 = 0 := by omega
  have h5 := dbl_val (dbls 16 F).1
  rw [h4, dbls_len, hPe] at h5
  rcases Nat.eq_zero_or_pos (dbl (dbls 16 F).1).2 with h6 | h6
  · exact h6
  · have := Nat.mul_le_mul_right P h6; omega
theorem digits_app (a b : List UInt8) : digits (a ++ b) = digits a ++ digits b := by simp [digits]
theorem digits_zeros (k : Nat) : digits (List.replicate k 48) = List.replicate k 0 := by simp [digits]
theorem numV_zeros (k : Nat) : numV (List.replicate k 0) = 0 := by
  induction k with
  | zero => rfl
  | succ k ih => rw [List.replicate_succ]; simp [numV, ih]
theorem dig_val (d : Nat) (h : d < 10) : (UInt8.ofNat (48 + d)).toNat - 48 = d := by simp; omega
theorem numV_dec (u : Nat) : numV (digits (Lib.decDigits u)) = u := by
  induction u using Nat.strongRecOn with
  | _ u ih =>
    by_cases h : u < 10
    · rw [decDigits_small u h]; simp [digits, numV]; have := dig_val u h; simp at this; exact this
    · rw [decDigits_big u h, digits_app, numV_app, ih (u / 10) (by omega)]
      have e : digits [UInt8.ofNat (48 + u % 10)] = [u % 10] := by
        show [(UInt8.ofNat (48 + u % 10)).toNat - 48] = [u % 10]
        rw [dig_val _ (by omega)]
      rw [e]; simp [numV]; omega
theorem frd_val (f r : Nat) (hr : r < 65536) (hd : 2 ^ (16 - f) ∣ r) (hf : f ≤ 16) : 65536 * numV (digits (frd f r)) = r * 10 ^ (digits (frd f r)).length := by
  induction f generalizing r with
  | zero => have := pow_end r hd hr; subst this; simp [frd, digits, numV]
  | succ f ih =>
    by_cases h0 : r = 0
    · subst h0; rw [frd_zero]; simp [digits, numV]
    · rw [frd_succ f r (by omega)]
      have e : digits (UInt8.ofNat (48 + r * 10 / 65536) :: frd f (r * 10 % 65536)) = (r * 10 / 65536) :: digits (frd f (r * 10 % 65536)) := by
        show ((UInt8.ofNat (48 + r * 10 / 65536)).toNat - 48) :: _ = _
        rw [dig_val _ (by omega)]; rfl
      rw [e]
      have h1 := ih (r * 10 % 65536) (by omega) (by
        have := pow_step (16 - (f + 1)) r hd (by omega)
        have e2 : 16 - (f + 1) + 1 = 16 - f := by omega
        rw [e2] at this; exact this) (by omega)
      simp only [numV, List.length_cons, Nat.pow_succ]
      obtain ⟨P, hP⟩ : ∃ P, 10 ^ (digits (frd f (r * 10 % 65536))).length = P := ⟨_, rfl⟩
      rw [hP] at h1 ⊢
      rw [Nat.mul_add, h1, ← Nat.mul_assoc, ← Nat.add_mul]
      have e3 : 65536 * (r * 10 / 65536) + r * 10 % 65536 = r * 10 := Nat.div_add_mod ..
      rw [e3, Nat.mul_assoc, Nat.mul_comm 10 P]
/-- the first k digits as a whole number -/
def whUx (xs : List Nat) : Nat → Nat
  | 0 => 0
  | k + 1 => whUx xs k * 10 + digAt xs k
theorem whS_min (xs : List Nat) (k : Nat) : whS xs k = min (whUx xs k) 4294967296 := by
  induction k with
  | zero => simp [whS, whUx]
  | succ k ih => simp only [whS, whUx]; rw [ih]; omega
/-- the whole part by its digits -/
theorem digAt_nat {xs : List Nat} {k : Nat} (h : k < xs.length) : xs[k]? = some (digAt xs (k : Int)) := by
  rw [digAt_at (List.getElem?_eq_getElem h)]; exact List.getElem?_eq_getElem h
theorem whU_take (xs : List Nat) (k : Nat) (h : k ≤ xs.length) : whUx xs k = numV (xs.take k) := by
  induction k with
  | zero => simp [whUx, numV]
  | succ k ih =>
    have hk := digAt_nat (xs := xs) (k := k) (by omega)
    rw [List.take_add_one, hk]
    simp only [whUx, Option.toList_some]
    rw [ih (by omega), numV_app]; simp [numV]
theorem fracP_drop (xs : List Nat) (p : Nat) (h : p ≤ xs.length) : fracP xs (p : Int) = xs.drop p := by
  unfold fracP fromP
  apply List.ext_getElem?
  intro i
  rw [List.getElem?_map, List.getElem?_drop]
  by_cases hi : p + i < xs.length
  · have e : (List.range ((xs.length : Int) - (p : Int)).toNat)[i]? = some i := by
      rw [List.getElem?_range (by omega)]
    rw [e, digAt_nat hi]
    simp only [Option.map_some]
    rw [show ((p : Int) + (i : Int)) = ((p + i : Nat) : Int) from by omega]
  · rw [List.getElem?_eq_none (by simp; omega), List.getElem?_eq_none (by omega)]; rfl
theorem rnd_exact (A F : List Nat) (hF : digs F) (hA : numV A ≤ 4294967296) (r : Nat) (h : 65536 * numV F = r * 10 ^ F.length) : rndD (A ++ F) (A.length : Int) = numV A * 65536 + r := by
  unfold rndD
  rw [fracP_drop _ _ (by simp), List.drop_left, Int.toNat_natCast, whS_min, whU_take _ _ (by simp), List.take_left]
  obtain ⟨h1, h2⟩ := exact_frac hF r h
  rw [h1, h2]; omega
/-- what is behind the point of a real's text -/
def tailU (m : Nat) : List UInt8 := if m % 65536 = 0 then [48] else frd 16 (m % 65536)
theorem tailU_dig (m : Nat) : allDig (tailU m) := by
  unfold tailU; split
  · intro c hc; rw [List.mem_singleton] at hc; subst hc; unfold isDig; decide
  · exact frd_dig 16 _ (by omega)
theorem tailU_len (m : Nat) : (tailU m).length ≤ 16 := by
  unfold tailU; split
  · simp
  · exact frd_len 16 _
theorem tailU_val (m : Nat) : 65536 * numV (digits (tailU m)) = (m % 65536) * 10 ^ (digits (tailU m)).length := by
  unfold tailU; split
  · rename_i h; rw [h]; simp [digits, numV]
  · exact frd_val 16 _ (by omega) (by simp) (by omega)
/-- a real's text, with noughts ahead and behind, without a sign -/
def txt (za zb m : Nat) : List UInt8 := (List.replicate za 48 ++ Lib.decDigits (m / 65536)) ++ 46 :: (tailU m ++ List.replicate zb 48)
theorem zeros_dig (k : Nat) : allDig (List.replicate k 48) := by
  intro c hc; rw [List.mem_replicate] at hc; rw [hc.2]; unfold isDig; decide
theorem allDig_app {a b : List UInt8} (ha : allDig a) (hb : allDig b) : allDig (a ++ b) := by
  intro c hc; rcases List.mem_append.1 hc with h | h
  · exact ha c h
  · exact hb c h
theorem man_txt (za zb m : Nat) : manA (txt za zb m) = List.replicate za 48 ++ Lib.decDigits (m / 65536) ∧ manB (txt za zb m) = tailU m ++ List.replicate zb 48 := by
  have h : Lib.cut (txt za zb m) [46] = (List.replicate za 48 ++ Lib.decDigits (m / 65536), tailU m ++ List.replicate zb 48, true) :=
    cut_app (fun x hx => not46 (allDig_app (zeros_dig za) (decDigits_dig _) x hx))
  unfold manA manB; rw [h]; exact ⟨rfl, rfl⟩
theorem digits_digs' {L : List UInt8} (h : allDig L) : digs (digits L) := digits_digs h
theorem manN_txt (za zb m : Nat) (hm : m ≤ 2147483648) : manN (txt za zb m) 0 = m := by
  obtain ⟨h1, h2⟩ := man_txt za zb m
  unfold manN man
  rw [h1, h2, Int.add_zero, digits_app]
  have hl : (List.replicate za (48 : UInt8) ++ Lib.decDigits (m / 65536)).length = (digits (List.replicate za 48 ++ Lib.decDigits (m / 65536))).length := by rw [digits_len]
  rw [hl]
  have hv : numV (digits (List.replicate za 48 ++ Lib.decDigits (m / 65536))) = m / 65536 := by
    rw [digits_app, numV_app, digits_zeros, numV_zeros, numV_dec]; omega
  rw [rnd_exact _ _ (digits_digs (allDig_app (tailU_dig m) (zeros_dig zb))) (by rw [hv]; omega) (m % 65536), hv]
  · omega
  · rw [digits_app, numV_app, List.length_append, digits_zeros, numV_zeros, List.length_replicate, Nat.pow_add, Nat.add_zero, ← Nat.mul_assoc, tailU_val, Nat.mul_assoc]
theorem manOk_txt (za zb m : Nat) : manOk (txt za zb m) = true := by
  obtain ⟨h1, h2⟩ := man_txt za zb m
  unfold manOk man; rw [h1, h2]
  rw [(allD_iff _).2 (allDig_app (allDig_app (zeros_dig za) (decDigits_dig _)) (allDig_app (tailU_dig m) (zeros_dig zb)))]
  have := decDigits_pos (m / 65536)
  cases h : List.replicate za 48 ++ Lib.decDigits (m / 65536) ++ (tailU m ++ List.replicate zb 48) with
  | nil => have h3 := congrArg List.length h; rw [List.length_append, List.length_append, List.length_nil] at h3; omega
  | cons x y => rfl
theorem txt_len (za zb m : Nat) (hm : m ≤ 2147483648) : (txt za zb m).length ≤ za + zb + 22 := by
  have h1 := decDigits_len 4 (m / 65536) (by omega)
  have h2 := tailU_len m
  unfold txt; simp; omega
/-- a text that begins with a digit has no sign -/
theorem cs_digit {c : UInt8} {t : List UInt8} (h : isDig c) : csB (c :: t) = false ∧ csL (c :: t) = c :: t := by
  unfold isDig at h
  have h1 : (45 : UInt8) ≠ c := by rintro rfl; simp at h
  have h2 : (43 : UInt8) ≠ c := by rintro rfl; simp at h
  have hb : csB (c :: t) = false := by unfold csB Lib.hasPrefix; simp [List.isPrefixOf, h1]
  refine ⟨hb, ?_⟩
  unfold csL; rw [hb, if_neg (by simp)]; unfold Lib.trimPrefix Lib.hasPrefix; simp [List.isPrefixOf, h2]
theorem cs_minus (t : List UInt8) : csB (45 :: t) = true ∧ csL (45 :: t) = t := ⟨rfl, rfl⟩
theorem cs_plus (t : List UInt8) : csB (43 :: t) = false ∧ csL (43 :: t) = t := ⟨rfl, rfl⟩
theorem txt_head (za zb m : Nat) : ∃ c t, txt za zb m = c :: t ∧ isDig c := by
  have hd := allDig_app (zeros_dig za) (decDigits_dig (m / 65536))
  have hp := decDigits_pos (m / 65536)
  cases h : List.replicate za (48 : UInt8) ++ Lib.decDigits (m / 65536) with
  | nil => have h3 := congrArg List.length h; simp at h3; rw [h3.2] at hp; simp at hp
  | cons x y => exact ⟨x, y ++ 46 :: (tailU m ++ List.replicate zb 48), by unfold txt; rw [h]; rfl, hd x (by rw [h]; exact List.mem_cons_self ..)⟩
theorem cs_txt (za zb m : Nat) : csB (txt za zb m) = false ∧ csL (txt za zb m) = txt za zb m := by
  obtain ⟨c, t, h, hd⟩ := txt_head za zb m
  rw [h]; exact cs_digit hd
theorem parse_of {l r : List UInt8} {b : Bool} {v : Int} (h64 : l.length ≤ 64) (hL : csL l = r) (hB : csB l = b) (hok : manOk r = true) (hv : sgn b (manN r 0) = v) (hf : fits v = true) : parseO l = some v := by
  unfold parseO; rw [if_pos h64, hL, hB, numO_some hok (by rw [hv]; exact hf), hv]
theorem parse_pos (za zb m : Nat) (hm : m ≤ 2147483647) (hz : za + zb ≤ 40) : parseO (txt za zb m) = some (m : Int) := by
  obtain ⟨h1, h2⟩ := cs_txt za zb m
  exact parse_of (by have := txt_len za zb m (by omega); omega) h2 h1 (manOk_txt _ _ _) (by unfold sgn; rw [if_neg (by simp), manN_txt _ _ _ (by omega)]) ((fits_iff _).2 ⟨by omega, by omega⟩)
theorem parse_plus (za zb m : Nat) (hm : m ≤ 2147483647) (hz : za + zb ≤ 40) : parseO (43 :: txt za zb m) = some (m : Int) := by
  obtain ⟨h1, h2⟩ := cs_plus (txt za zb m)
  exact parse_of (by have := txt_len za zb m (by omega); simp; omega) h2 h1 (manOk_txt _ _ _) (by unfold sgn; rw [if_neg (by simp), manN_txt _ _ _ (by omega)]) ((fits_iff _).2 ⟨by omega, by omega⟩)
theorem parse_neg (za zb m : Nat) (hm : m ≤ 2147483648) (hz : za + zb ≤ 40) : parseO (45 :: txt za zb m) = some (-(m : Int)) := by
  obtain ⟨h1, h2⟩ := cs_minus (txt za zb m)
  exact parse_of (by have := txt_len za zb m (by omega); simp; omega) h2 h1 (manOk_txt _ _ _) (by unfold sgn; rw [if_pos rfl, manN_txt _ _ _ (by omega)]) ((fits_iff _).2 ⟨by omega, by omega⟩)
/-- whole ones, without a point -/
theorem man_whole (u : Nat) : manA (Lib.decDigits u) = Lib.decDigits u ∧ manB (Lib.decDigits u) = [] := by
  have h1 : Lib.index (Lib.decDigits u) [46] = -1 := by rw [Lib.index_one, indexByte_neg (fun x hx => not46 (decDigits_dig u x hx))]
  unfold manA manB Lib.cut; rw [h1]; exact ⟨rfl, rfl⟩
theorem manN_whole (u : Nat) (hu : u ≤ 4294967296) : manN (Lib.decDigits u) 0 = ((u * 65536 : Nat) : Int) := by
  obtain ⟨h1, h2⟩ := man_whole u
  unfold manN man
  rw [h1, h2, Int.add_zero, List.append_nil]
  have hl : (Lib.decDigits u).length = (digits (Lib.decDigits u)).length := by rw [digits_len]
  rw [hl]
  have := rnd_exact (digits (Lib.decDigits u)) [] (by intro d hd; cases hd) (by rw [numV_dec]; exact hu) 0 (by simp [numV])
  rw [List.append_nil, numV_dec] at this
  rw [this, Nat.add_zero]
theorem manOk_whole (u : Nat) : manOk (Lib.decDigits u) = true := by
  obtain ⟨h1, h2⟩ := man_whole u
  unfold manOk man; rw [h1, h2, List.append_nil, (allD_iff _).2 (decDigits_dig u)]
  have := decDigits_pos u
  cases h : Lib.decDigits u with
  | nil => rw [h] at this; simp at this
  | cons x y => rfl
theorem dec_head (u : Nat) : ∃ c t, Lib.decDigits u = c :: t ∧ isDig c := by
  have hp := decDigits_pos u
  cases h : Lib.decDigits u with
  | nil => rw [h] at hp; simp at hp
  | cons x y => exact ⟨x, y, rfl, decDigits_dig u x (by rw [h]; exact List.mem_cons_self ..)⟩
/-- the texts that Print and PrintReal tell -/
theorem printU_txt (m : Nat) (h : m % 65536 ≠ 0) : printU m = txt 0 0 m := by
  unfold printU txt tailU; rw [if_neg h, if_neg h]; simp
theorem printU_whole (m : Nat) (h : m % 65536 = 0) : printU m = Lib.decDigits (m / 65536) := by
  unfold printU; rw [if_pos h, List.append_nil]
theorem realU_txt (m : Nat) : (if m % 65536 = 0 then printU m ++ [46, 48] else printU m) = txt 0 0 m := by
  split
  · rename_i h; rw [printU_whole m h]; unfold txt tailU; rw [if_pos h]; simp
  · rename_i h; exact printU_txt m h
theorem parse_printU (m : Nat) (hm : m ≤ 2147483647) : parseO (printU m) = some (m : Int) := by
  by_cases h : m % 65536 = 0
  · rw [printU_whole m h]
    obtain ⟨c, t, hc, hd⟩ := dec_head (m / 65536)
    have hcs := cs_digit (t := t) hd
    rw [← hc] at hcs
    refine parse_of (by have := decDigits_len 4 (m / 65536) (by omega); omega) hcs.2 hcs.1 (manOk_whole _) ?_ ((fits_iff _).2 ⟨by omega, by omega⟩)
    unfold sgn; rw [if_neg (by simp), manN_whole _ (by omega)]; omega
  · rw [printU_txt m h]; exact parse_pos 0 0 m hm (by omega)
theorem parse_printN (m : Nat) (hm : m ≤ 2147483648) : parseO (45 :: printU m) = some (-(m : Int)) := by
  by_cases h : m % 65536 = 0
  · rw [printU_whole m h]
    obtain ⟨h1, h2⟩ := cs_minus (Lib.decDigits (m / 65536))
    refine parse_of (by have := decDigits_len 4 (m / 65536) (by omega); simp; omega) h2 h1 (manOk_whole _) ?_ ((fits_iff _).2 ⟨by omega, by omega⟩)
    unfold sgn; rw [if_pos rfl, manN_whole _ (by omega)]; omega
  · rw [printU_txt m h]; exact parse_neg 0 0 m hm (by omega)
end Dc
end Go.Proofs.YtfilbfenpdaahaaGreatDoor
