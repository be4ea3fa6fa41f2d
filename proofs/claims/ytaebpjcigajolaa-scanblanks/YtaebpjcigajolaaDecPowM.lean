/-
  Plain mathematics for the law DecPowers: what a power of ten does to a number's text.
-/
import Derived.Test.YtaebpjcigajolaaDecBackW
namespace Go.Proofs.Ytaebpjcigajolaa
open Go.RowKit
open Fx Dc
namespace Dc
theorem digAt_zero (xs : List Nat) (i : Int) : digAt (0 :: xs) (i + 1) = digAt xs i := by
  by_cases h : 0 ≤ i
  · obtain ⟨k, rfl⟩ : ∃ k : Nat, i = k := ⟨i.toNat, by omega⟩
    unfold digAt
    rw [if_pos (by omega), if_pos (by omega)]
    have e : ((k : Int) + 1).toNat = k + 1 := by omega
    rw [e]; simp
  · rw [digAt_neg (xs := xs) (by omega)]
    by_cases h1 : i = -1
    · subst h1; rfl
    · rw [digAt_neg (by omega)]
theorem whS_zero (xs : List Nat) (k : Nat) : whS (0 :: xs) (k + 1) = whS xs k := by
  induction k with
  | zero => simp [whS, digAt]
  | succ k ih =>
    have h := digAt_zero xs (k : Int)
    rw [whS, ih]
    have e : (((k + 1 : Nat)) : Int) = (k : Int) + 1 := by omega
    rw [e, h]; rfl
theorem rnd_zero (xs : List Nat) (p : Int) : rndD (0 :: xs) (p + 1) = rndD xs p := by
  have hf : fracP (0 :: xs) (p + 1) = fracP xs p := by
    unfold fracP fromP
    have e : (((0 :: xs).length : Nat) : Int) - (p + 1) = (xs.length : Int) - p := by simp; omega
    rw [e]
    apply List.map_congr_left
    intro i _
    have := digAt_zero xs (p + (i : Int))
    rw [← this]; congr 1; omega
  have hw : whS (0 :: xs) (p + 1).toNat = whS xs p.toNat := by
    by_cases h : 0 ≤ p
    · have e : (p + 1).toNat = p.toNat + 1 := by omega
      rw [e, whS_zero]
    · have e1 : (p + 1).toNat = 0 := by omega
      have e2 : p.toNat = 0 := by omega
      rw [e1, e2]; rfl
  unfold rndD; rw [hf, hw]
theorem rnd_zeros (z : Nat) (xs : List Nat) (p : Int) : rndD (List.replicate z 0 ++ xs) (p + z) = rndD xs p := by
  induction z generalizing p with
  | zero => simp
  | succ z ih =>
    rw [List.replicate_succ, List.cons_append]
    have e : p + ((z + 1 : Nat) : Int) = (p + (z : Int)) + 1 := by omega
    rw [e, rnd_zero, ih]
/-- a number with k digits behind the point -/
def powN (u k : Nat) : Nat := rndD (digits (Lib.decDigits u)) (((Lib.decDigits u).length : Int) - (k : Int))
theorem powN_bd (u k : Nat) (hu : u ≤ 32768) : powN u k ≤ 2147483648 ∧ (u ≤ 32767 → powN u k ≤ 2147483647) := by
  have hd := digits_digs (decDigits_dig u)
  by_cases hk : k = 0
  · subst hk
    have h := rnd_exact (digits (Lib.decDigits u)) [] (by intro d hd; cases hd) (by rw [numV_dec]; omega) 0 (by simp [numV])
    rw [List.append_nil, numV_dec, digits_len] at h
    unfold powN
    have e : ((Lib.decDigits u).length : Int) - ((0 : Nat) : Int) = ((Lib.decDigits u).length : Int) := by omega
    rw [e, h]; omega
  · have h2 := dbls_bd 16 (fracP (digits (Lib.decDigits u)) (((Lib.decDigits u).length : Int) - (k : Int))) (fromP_digs hd _ _)
    have h3 := dbl_carry _ (dbls_digs 16 (fracP (digits (Lib.decDigits u)) (((Lib.decDigits u).length : Int) - (k : Int))) (fromP_digs hd _ _))
    have h4 : (2 : Nat) ^ 16 = 65536 := by decide
    have h5 : whS (digits (Lib.decDigits u)) (((Lib.decDigits u).length : Int) - (k : Int)).toNat * 10 ≤ u := by
      obtain ⟨p, hp⟩ : ∃ p, (((Lib.decDigits u).length : Int) - (k : Int)).toNat = p := ⟨_, rfl⟩
      rw [hp]
      rcases Nat.eq_zero_or_pos p with h0 | h0
      · subst h0; simp [whS]
      · have hpl : p < (Lib.decDigits u).length := by omega
        rw [whS_min, whU_take _ _ (by rw [digits_len]; omega)]
        have hsplit := numV_app ((digits (Lib.decDigits u)).take p) ((digits (Lib.decDigits u)).drop p)
        rw [List.take_append_drop, numV_dec, List.length_drop, digits_len] at hsplit
        have hpow : 10 ≤ 10 ^ ((Lib.decDigits u).length - p) := by
          have : 10 ^ 1 ≤ 10 ^ ((Lib.decDigits u).length - p) := Nat.pow_le_pow_right (by omega) (by omega)
          omega
        have hm := Nat.mul_le_mul_left (numV ((digits (Lib.decDigits u)).take p)) hpow
        omega
    unfold powN rndD
    omega
theorem pwAt_app {a b : List UInt8} (h : ∀ x ∈ a, x ≠ 101 ∧ x ≠ 69) : pwAt (a ++ 101 :: b) = a.length := by
  unfold pwAt
  refine Lib.indexAny_hit (x := 101) ?_ ?_ (by decide)
  · intro j c hj hc
    rw [List.getElem?_append_left hj] at hc
    obtain ⟨h1, h2⟩ := h c (List.mem_of_getElem? hc)
    simp [h1, h2]
  · rw [List.getElem?_append_right (Nat.le_refl _)]; simp
/-- a text that is a real with a power -/
theorem tok_power {l r a : List UInt8} {b : Bool} {q v : Int} (h64 : l.length ≤ 64) (h35 : ∀ x ∈ l, x ≠ 35) (hL : csL l = r) (hB : csB l = b) (h101 : (101 : UInt8) ∈ r)
    (hpo : pwOk r = true) (hpn : pwN r = q) (hpm : pwM r = a) (hok : manOk a = true) (hv : sgn b (manN a q) = v) (hf : fits v = true) : tokR l = (2, v, true, 0) := by
  have hw : whoO l = none := by
    have : rdD 10 r 0 = none := rdD_none h101 (by decide)
    have h2 : rdOk 10 r = false := by unfold rdOk; rw [this]; rfl
    unfold whoO; rw [hL, h2]; rfl
  have hro : reaOk l = true := by unfold reaOk; rw [hL, hpo, hpm, hok]; rfl
  have hrn : reaN l = v := by unfold reaN; rw [hL, hB, hpm, hpn]; exact hv
  unfold tokR
  rw [if_neg (by omega), no_hash h35, if_neg (by simp), hw]
  simp only [Option.isSome_none, Bool.false_eq_true, if_false]
  unfold reaK reaV reaE
  rw [hro, hrn, hf]; rfl
theorem pw_facts {a t : List UInt8} (h : ∀ x ∈ a, x ≠ 101 ∧ x ≠ 69) : pwT (a ++ 101 :: t) = t ∧ pwM (a ++ 101 :: t) = a ∧ (pwD (a ++ 101 :: t) = csL t) ∧ (pwOk (a ++ 101 :: t) = (rdOk 10 (csL t) && decide ((csL t).length ≤ 3))) ∧ pwN (a ++ 101 :: t) = sgn (csB t) (rdV 10 (csL t)) := by
  have hp := pwAt_app (b := t) h
  have hT : pwT (a ++ 101 :: t) = t := by
    unfold pwT; rw [hp]
    have e : ((a.length : Int)).toNat + 1 = a.length + 1 := by omega
    rw [e, List.drop_append, List.drop_of_length_le (by omega)]
    simp
  have hD : pwD (a ++ 101 :: t) = csL t := by unfold pwD; rw [hT]
  refine ⟨hT, ?_, hD, ?_, ?_⟩
  · unfold pwM; rw [hp, if_neg (by omega), Int.toNat_natCast, List.take_left]
  · unfold pwOk; rw [hp, hD, decide_eq_false (by omega)]; rfl
  · unfold pwN; rw [hp, if_neg (by omega), hT, hD]
theorem dig_noE {l : List UInt8} (h : allDig l) : ∀ x ∈ l, x ≠ 101 ∧ x ≠ 69 := fun x hx => ⟨dig_ne (h x hx) (by unfold isDig; decide), dig_ne (h x hx) (by unfold isDig; decide)⟩
theorem dig_no35 {l : List UInt8} (h : allDig l) : ∀ x ∈ l, x ≠ 35 := fun x hx => dig_ne (h x hx) (by unfold isDig; decide)
/-- one digit -/
theorem one_dig (k : Nat) (hk : k < 10) : csL [UInt8.ofNat (48 + k)] = [UInt8.ofNat (48 + k)] ∧ rdOk 10 [UInt8.ofNat (48 + k)] = true ∧ rdV 10 [UInt8.ofNat (48 + k)] = (k : Int) := by
  have h1 := (cs_digit (t := []) (isDig_of k hk)).2
  have hdg : digU ((UInt8.ofNat (48 + k)).toNat : Int) = k := by
    have e : (UInt8.ofNat (48 + k)).toNat = 48 + k := by simp; omega
    rw [e]; unfold digU; rw [if_pos (by omega)]; omega
  have h2 : rdD 10 [UInt8.ofNat (48 + k)] 0 = some (k : Int) := by
    rw [rdD_cons, hdg, if_pos (by omega)]; simp [rdD]; omega
  refine ⟨h1, ?_, ?_⟩
  · unfold rdOk; rw [h2]; rfl
  · unfold rdV; rw [h2]; rfl
/-- the three texts, with and without a sign -/
def sg (neg : Bool) (l : List UInt8) : List UInt8 := if neg = true then 45 :: l else l
theorem cs_sg (neg : Bool) {c : UInt8} {t : List UInt8} (h : isDig c) : csB (sg neg (c :: t)) = neg ∧ csL (sg neg (c :: t)) = c :: t := by
  cases neg
  · exact cs_digit h
  · exact cs_minus _
theorem sg_len (neg : Bool) (l : List UInt8) : (sg neg l).length ≤ l.length + 1 := by cases neg <;> simp [sg]
theorem sg_no35 (neg : Bool) {l : List UInt8} (h : ∀ x ∈ l, x ≠ 35) : ∀ x ∈ sg neg l, x ≠ 35 := by
  cases neg
  · exact h
  · intro x hx
    rcases List.mem_cons.1 hx with rfl | hx
    · decide
    · exact h x hx
theorem fits_sgn (neg : Bool) (_u N : Nat) (h1 : N ≤ 2147483648) (h2 : neg = false → N ≤ 2147483647) : fits (sgn neg (N : Int)) = true := by
  rw [fits_iff]; unfold sgn
  cases neg
  · have := h2 rfl; simp; omega
  · simp; omega
theorem mem_app35 {a b : List UInt8} (ha : ∀ x ∈ a, x ≠ 35) (hb : ∀ x ∈ b, x ≠ 35) : ∀ x ∈ a ++ b, x ≠ 35 := by
  intro x hx; rcases List.mem_append.1 hx with h | h
  · exact ha x h
  · exact hb x h
theorem tok_t (neg : Bool) (u k : Nat) (hu : u ≤ 32768) (hn : neg = false → u ≤ 32767) (hk : k < 10) :
    tokR (sg neg (Lib.decDigits u) ++ [101, 45] ++ Lib.decDigits k) = (2, sgn neg (powN u k : Nat), true, 0) := by
  obtain ⟨c, t, hc, hd⟩ := dec_head u
  have hdl := decDigits_len 4 u (by omega)
  have e : sg neg (Lib.decDigits u) ++ [101, 45] ++ Lib.decDigits k = sg neg (c :: (t ++ 101 :: 45 :: [UInt8.ofNat (48 + k)])) := by
    rw [hc, decDigits_small k hk]; cases neg <;> simp [sg]
  have er : c :: (t ++ 101 :: 45 :: [UInt8.ofNat (48 + k)]) = Lib.decDigits u ++ 101 :: 45 :: [UInt8.ofNat (48 + k)] := by rw [hc]; rfl
  obtain ⟨h1, h2⟩ := cs_sg neg (t := t ++ 101 :: 45 :: [UInt8.ofNat (48 + k)]) hd
  rw [e]
  obtain ⟨f1, f2, f3, f4, f5⟩ := pw_facts (a := Lib.decDigits u) (t := 45 :: [UInt8.ofNat (48 + k)]) (dig_noE (decDigits_dig u))
  obtain ⟨m1, m2⟩ := cs_minus [UInt8.ofNat (48 + k)]
  obtain ⟨o1, o2, o3⟩ := one_dig k hk
  rw [m2] at f4 f5
  rw [m1, o3] at f5
  obtain ⟨b1, b2⟩ := powN_bd u k hu
  have hmN : manN (Lib.decDigits u) (-(k : Int)) = ((powN u k : Nat) : Int) := by
    obtain ⟨w1, w2⟩ := man_whole u
    unfold manN man powN; rw [w1, w2, List.append_nil]; rfl
  refine tok_power (r := c :: (t ++ 101 :: 45 :: [UInt8.ofNat (48 + k)])) (a := Lib.decDigits u) (q := -(k : Int)) ?_ ?_ h2 h1 (by simp) ?_ ?_ ?_ (manOk_whole u) (by rw [hmN]) (fits_sgn neg u _ b1 (fun h => b2 (hn h)))
  · have := sg_len neg (c :: (t ++ 101 :: 45 :: [UInt8.ofNat (48 + k)])); rw [er] at this ⊢; simp only [List.length_append, List.length_cons, List.length_nil] at this; omega
  · apply sg_no35; rw [er]
    refine mem_app35 (dig_no35 (decDigits_dig u)) ?_
    intro x hx
    rcases List.mem_cons.1 hx with rfl | hx
    · decide
    · rcases List.mem_cons.1 hx with rfl | hx
      · decide
      · rw [List.mem_singleton] at hx; rw [hx]; exact dig_ne (isDig_of k hk) (by unfold isDig; decide)
  · rw [er, f4, o2]; rfl
  · rw [er, f5]; rfl
  · rw [er, f2]
theorem man_pt {a b : List UInt8} (ha : allDig a) (hb : allDig b) (hne : a ≠ []) : manA (a ++ 46 :: b) = a ∧ manB (a ++ 46 :: b) = b ∧ manOk (a ++ 46 :: b) = true := by
  have h : Lib.cut (a ++ 46 :: b) [46] = (a, b, true) := cut_app (fun x hx => not46 (ha x hx))
  have h1 : manA (a ++ 46 :: b) = a := by unfold manA; rw [h]
  have h2 : manB (a ++ 46 :: b) = b := by unfold manB; rw [h]
  refine ⟨h1, h2, ?_⟩
  unfold manOk man; rw [h1, h2, (allD_iff _).2 (allDig_app ha hb)]
  cases a with
  | nil => exact absurd rfl hne
  | cons x y => rfl
/-- z noughts ahead, and k digits behind the point -/
theorem tok_u (neg : Bool) (u k z : Nat) (hu : u ≤ 32768) (hn : neg = false → u ≤ 32767) (_hk : k < 10) (hz : z ≤ 10) (a b : List UInt8) (hab : a ++ b = List.replicate z 48 ++ Lib.decDigits u) (hb : b.length = k) (hne : a ≠ []) :
    tokR (sg neg (a ++ 46 :: b)) = (2, sgn neg (powN u k : Nat), true, 0) := by
  have hdl := decDigits_len 4 u (by omega)
  have hall : allDig (a ++ b) := by rw [hab]; exact allDig_app (zeros_dig z) (decDigits_dig u)
  have ha : allDig a := fun x hx => hall x (List.mem_append.2 (Or.inl hx))
  have hb2 : allDig b := fun x hx => hall x (List.mem_append.2 (Or.inr hx))
  obtain ⟨m1, m2, m3⟩ := man_pt ha hb2 hne
  have hlen : a.length + b.length ≤ 20 := by
    have := congrArg List.length hab; rw [List.length_append, List.length_append, List.length_replicate] at this; omega
  obtain ⟨c, t, hct⟩ : ∃ c t, a = c :: t := by
    cases a with
    | nil => exact absurd rfl hne
    | cons c t => exact ⟨c, t, rfl⟩
  have hcs := cs_sg neg (t := t ++ 46 :: b) (ha c (by rw [hct]; exact List.mem_cons_self ..))
  have er : c :: (t ++ 46 :: b) = a ++ 46 :: b := by rw [hct]; rfl
  rw [er] at hcs
  obtain ⟨b1, b2⟩ := powN_bd u k hu
  have hmN : manN (a ++ 46 :: b) 0 = ((powN u k : Nat) : Int) := by
    unfold manN man; rw [m1, m2, hab, Int.add_zero, digits_app, digits_zeros]
    have hlen2 : (a.length : Int) = (((Lib.decDigits u).length : Int) - (k : Int)) + (z : Int) := by
      have := congrArg List.length hab; rw [List.length_append, List.length_append, List.length_replicate] at this; omega
    rw [hlen2, rnd_zeros]; rfl
  refine tok_real (r := a ++ 46 :: b) ?_ ?_ hcs.2 hcs.1 (by simp) ?_ m3 (by rw [hmN]) (fits_sgn neg u _ b1 (fun h => b2 (hn h)))
  · have := sg_len neg (a ++ 46 :: b); rw [List.length_append, List.length_cons] at this; omega
  · apply sg_no35
    refine mem_app35 (dig_no35 ha) ?_
    intro x hx
    rcases List.mem_cons.1 hx with rfl | hx
    · decide
    · exact dig_no35 hb2 x hx
  · intro x hx
    rcases List.mem_append.1 hx with h | h
    · exact dig_noE ha x h
    · rcases List.mem_cons.1 h with rfl | h
      · decide
      · exact dig_noE hb2 x h
theorem tok_v (neg : Bool) (u k : Nat) (hu : u ≤ 32768) (hn : neg = false → u ≤ 32767) (hk : k < 10) :
    tokR (sg neg (Lib.decDigits u) ++ [46] ++ List.replicate k 48 ++ [101, 43, 48]) = (2, sgn neg ((u * 65536 : Nat) : Int), true, 0) := by
  obtain ⟨c, t, hc, hd⟩ := dec_head u
  have hdl := decDigits_len 4 u (by omega)
  have e : sg neg (Lib.decDigits u) ++ [46] ++ List.replicate k 48 ++ [101, 43, 48] = sg neg (c :: (t ++ 46 :: (List.replicate k 48 ++ 101 :: 43 :: [48]))) := by
    rw [hc]; cases neg <;> simp [sg]
  have er : c :: (t ++ 46 :: (List.replicate k 48 ++ 101 :: 43 :: [48])) = (Lib.decDigits u ++ 46 :: List.replicate k 48) ++ 101 :: 43 :: [48] := by rw [hc]; simp
  obtain ⟨h1, h2⟩ := cs_sg neg (t := t ++ 46 :: (List.replicate k 48 ++ 101 :: 43 :: [48])) hd
  rw [e]
  have hA : ∀ x ∈ Lib.decDigits u ++ 46 :: List.replicate k 48, x ≠ 101 ∧ x ≠ 69 := by
    intro x hx
    rcases List.mem_append.1 hx with h | h
    · exact dig_noE (decDigits_dig u) x h
    · rcases List.mem_cons.1 h with rfl | h
      · decide
      · exact dig_noE (zeros_dig k) x h
  obtain ⟨f1, f2, f3, f4, f5⟩ := pw_facts (t := 43 :: [48]) hA
  obtain ⟨p1, p2⟩ := cs_plus [48]
  have o := one_dig 0 (by omega)
  rw [p2] at f4 f5
  have hdne : Lib.decDigits u ≠ [] := by rw [hc]; simp
  obtain ⟨m1, m2, m3⟩ := man_pt (decDigits_dig u) (zeros_dig k) hdne
  have hmN : manN (Lib.decDigits u ++ 46 :: List.replicate k 48) 0 = ((u * 65536 : Nat) : Int) := by
    unfold manN man; rw [m1, m2, Int.add_zero, digits_app]
    have hl : (Lib.decDigits u).length = (digits (Lib.decDigits u)).length := by rw [digits_len]
    rw [hl, rnd_exact _ _ (digits_digs (zeros_dig k)) (by rw [numV_dec]; omega) 0 (by rw [digits_zeros, numV_zeros]; simp), numV_dec, Nat.add_zero]
  refine tok_power (r := c :: (t ++ 46 :: (List.replicate k 48 ++ 101 :: 43 :: [48]))) (a := Lib.decDigits u ++ 46 :: List.replicate k 48) (q := 0) ?_ ?_ h2 h1 (by simp) ?_ ?_ ?_ m3 (by rw [hmN]) (fits_sgn neg u _ (by omega) (fun h => by have := hn h; omega))
  · have := sg_len neg (c :: (t ++ 46 :: (List.replicate k 48 ++ 101 :: 43 :: [48]))); rw [er] at this ⊢; simp only [List.length_append, List.length_cons, List.length_nil, List.length_replicate] at this; omega
  · apply sg_no35; rw [er]
    refine mem_app35 (mem_app35 (dig_no35 (decDigits_dig u)) ?_) (by decide)
    intro x hx
    rcases List.mem_cons.1 hx with rfl | hx
    · decide
    · exact dig_no35 (zeros_dig k) x hx
  · rw [er, f4]; decide
  · rw [er, f5]; decide
  · rw [er, f2]
end Dc
end Go.Proofs.Ytaebpjcigajolaa
