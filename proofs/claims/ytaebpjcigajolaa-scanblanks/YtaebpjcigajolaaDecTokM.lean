/-
  Plain mathematics for the law DecTokens: the document's way of reading a token and the program's are one.
-/
import Derived.Test.YtaebpjcigajolaaDecPowM
import Derived.Test.YtaebpjcigajolaaDecParsesW
namespace Go.Proofs.Ytaebpjcigajolaa
open Go.RowKit
open Fx Dc
namespace Dc
theorem digU_lt10 (c : UInt8) : digU (c.toNat : Int) < 10 ↔ isDig c := by
  unfold digU isDig
  split
  · omega
  · split
    · omega
    · split <;> omega
theorem rd10 {l : List UInt8} : ∀ {n : Int}, (rdD 10 l n).isSome = true ↔ allDig l := by
  induction l with
  | nil => intro n; simp [rdD, allDig]
  | cons c t ih =>
    intro n
    rw [rdD_cons]
    by_cases h : digU (c.toNat : Int) < 10
    · rw [if_pos h, ih]
      constructor
      · intro h2 x hx
        rcases List.mem_cons.1 hx with rfl | hx
        · exact (digU_lt10 _).1 h
        · exact h2 x hx
      · intro h2 x hx; exact h2 x (List.mem_cons_of_mem _ hx)
    · rw [if_neg h]
      constructor
      · intro h2; cases h2
      · intro h2; exact absurd ((digU_lt10 _).2 (h2 c (List.mem_cons_self ..))) h
theorem rdOk10 {l : List UInt8} : rdOk 10 l = true ↔ allDig l ∧ l ≠ [] := by
  unfold rdOk
  rw [Bool.and_eq_true, rd10]
  cases l <;> simp
theorem rdD_cap {base : Int} (hb : 1 ≤ base) : ∀ {l : List UInt8} {m : Int}, rdD base l 4294967296 = some m → m = 4294967296
  | [], m, h => by simp [rdD] at h; omega
  | c :: r, m, h => by
    rw [rdD_cons] at h
    split at h
    · have hd := digU_bd (c.toNat : Int)
      have e : min (4294967296 * base + digU (c.toNat : Int)) 4294967296 = 4294967296 := by omega
      rw [e] at h
      exact rdD_cap hb h
    · cases h
theorem cs_other {c : UInt8} {t : List UInt8} (h1 : c ≠ 45) (h2 : c ≠ 43) : csB (c :: t) = false ∧ csL (c :: t) = c :: t := by
  have hb : csB (c :: t) = false := by unfold csB Lib.hasPrefix; simp [List.isPrefixOf, Ne.symm h1]
  have hp : Lib.hasPrefix (c :: t) [43] = false := by unfold Lib.hasPrefix; simp [List.isPrefixOf, Ne.symm h2]
  refine ⟨hb, ?_⟩
  unfold csL; rw [hb, if_neg (by simp)]; unfold Lib.trimPrefix; rw [hp]; rfl
theorem cs_nil : csB [] = false ∧ csL [] = [] := ⟨rfl, rfl⟩
theorem mem_csL {l : List UInt8} {c : UInt8} (h : c ∈ l) (h1 : c ≠ 45) (h2 : c ≠ 43) : c ∈ csL l := by
  cases l with
  | nil => cases h
  | cons x t =>
    by_cases e1 : x = 45
    · subst e1; rw [(cs_minus t).2]
      rcases List.mem_cons.1 h with h | h
      · exact absurd h h1
      · exact h
    · by_cases e2 : x = 43
      · subst e2; rw [(cs_plus t).2]
        rcases List.mem_cons.1 h with h | h
        · exact absurd h h2
        · exact h
      · rw [(cs_other e1 e2).2]; exact h
theorem csL_mem {l : List UInt8} {c : UInt8} (h : c ∈ csL l) : c ∈ l := by
  cases l with
  | nil => exact h
  | cons x t =>
    by_cases e1 : x = 45
    · subst e1; rw [(cs_minus t).2] at h; exact List.mem_cons_of_mem _ h
    · by_cases e2 : x = 43
      · subst e2; rw [(cs_plus t).2] at h; exact List.mem_cons_of_mem _ h
      · rw [(cs_other e1 e2).2] at h; exact h
def noE (l : List UInt8) : Prop := ∀ x ∈ l, x ≠ 101 ∧ x ≠ 69
theorem split_E (l : List UInt8) : noE l ∨ ∃ a x b, l = a ++ x :: b ∧ (x = 101 ∨ x = 69) ∧ noE a := by
  induction l with
  | nil => left; intro x hx; cases hx
  | cons c t ih =>
    by_cases hc : c = 101 ∨ c = 69
    · right; exact ⟨[], c, t, rfl, hc, by intro x hx; cases hx⟩
    · rcases ih with h | ⟨a, x, b, h1, h2, h3⟩
      · left; intro x hx
        rcases List.mem_cons.1 hx with rfl | hx
        · exact ⟨fun e => hc (Or.inl e), fun e => hc (Or.inr e)⟩
        · exact h x hx
      · right; refine ⟨c :: a, x, b, by rw [h1]; rfl, h2, ?_⟩
        intro y hy
        rcases List.mem_cons.1 hy with rfl | hy
        · exact ⟨fun e => hc (Or.inl e), fun e => hc (Or.inr e)⟩
        · exact h3 y hy
theorem cs_app {a b : List UInt8} {x : UInt8} (hx : x = 101 ∨ x = 69) : csB (a ++ x :: b) = csB a ∧ csL (a ++ x :: b) = csL a ++ x :: b := by
  cases a with
  | nil =>
    have h := cs_other (c := x) (t := b) (by rcases hx with rfl | rfl <;> decide) (by rcases hx with rfl | rfl <;> decide)
    exact ⟨h.1, h.2⟩
  | cons c t =>
    rw [List.cons_append]
    by_cases e1 : c = 45
    · subst e1
      rw [(cs_minus _).1, (cs_minus _).2, (cs_minus _).1, (cs_minus _).2]; exact ⟨rfl, rfl⟩
    · by_cases e2 : c = 43
      · subst e2
        rw [(cs_plus _).1, (cs_plus _).2, (cs_plus _).1, (cs_plus _).2]; exact ⟨rfl, rfl⟩
      · rw [(cs_other e1 e2).1, (cs_other e1 e2).2, (cs_other e1 e2).1, (cs_other e1 e2).2]; exact ⟨rfl, rfl⟩
theorem pw_x {a t : List UInt8} {c : UInt8} (hc : c = 101 ∨ c = 69) (h : noE a) : pwOk (a ++ c :: t) = (rdOk 10 (csL t) && decide ((csL t).length ≤ 3)) ∧ pwN (a ++ c :: t) = sgn (csB t) (rdV 10 (csL t)) ∧ pwM (a ++ c :: t) = a := by
  have hp : pwAt (a ++ c :: t) = a.length := by
    unfold pwAt
    refine Lib.indexAny_hit (x := c) ?_ ?_ (by rcases hc with rfl | rfl <;> decide)
    · intro j d hj hd
      rw [List.getElem?_append_left hj] at hd
      obtain ⟨h1, h2⟩ := h d (List.mem_of_getElem? hd)
      simp [h1, h2]
    · rw [List.getElem?_append_right (Nat.le_refl _)]; simp
  have hT : pwT (a ++ c :: t) = t := by
    unfold pwT; rw [hp]
    have e : ((a.length : Int)).toNat + 1 = a.length + 1 := by omega
    rw [e, List.drop_append, List.drop_of_length_le (by omega)]
    simp
  have hD : pwD (a ++ c :: t) = csL t := by unfold pwD; rw [hT]
  refine ⟨?_, ?_, ?_⟩
  · unfold pwOk; rw [hp, hD, decide_eq_false (by omega)]; rfl
  · unfold pwN; rw [hp, if_neg (by omega), hT, hD]
  · unfold pwM; rw [hp, if_neg (by omega), Int.toNat_natCast, List.take_left]
theorem rea_noE {l : List UInt8} (h : noE l) : reaOk l = manOk (csL l) ∧ reaN l = sgn (csB l) (manN (csL l) 0) := by
  have hp := no_any (l := csL l) (fun x hx => h x (csL_mem hx))
  have hpo : pwOk (csL l) = true := by unfold pwOk; rw [hp]; rfl
  have hpn : pwN (csL l) = 0 := by unfold pwN; rw [hp]; rfl
  have hpm : pwM (csL l) = csL l := by unfold pwM; rw [hp]; rfl
  unfold reaOk reaN; rw [hpo, hpn, hpm]; exact ⟨rfl, rfl⟩
theorem rea_E {a b : List UInt8} {x : UInt8} (hx : x = 101 ∨ x = 69) (h : noE a) :
    reaOk (a ++ x :: b) = ((rdOk 10 (csL b) && decide ((csL b).length ≤ 3)) && manOk (csL a)) ∧ reaN (a ++ x :: b) = sgn (csB a) (manN (csL a) (sgn (csB b) (rdV 10 (csL b)))) := by
  obtain ⟨h1, h2⟩ := cs_app (a := a) (b := b) hx
  obtain ⟨p1, p2, p3⟩ := pw_x (a := csL a) (t := b) hx (fun y hy => h y (csL_mem hy))
  unfold reaOk reaN; rw [h1, h2, p1, p2, p3]; exact ⟨rfl, rfl⟩
theorem man_sharp {l : List UInt8} (h : (35 : UInt8) ∈ l) : manOk l = false := by
  unfold manOk
  cases ha : allD (man l) with
  | false => rfl
  | true => exact absurd ((allD_iff _).1 ha 35 (mem_man l 35 h (by decide))) (by unfold isDig; decide)
theorem rd_sharp {l : List UInt8} (h : (35 : UInt8) ∈ l) : rdOk 10 l = false := by
  cases hr : rdOk 10 l with
  | false => rfl
  | true => exact absurd ((rdOk10.1 hr).1 35 h) (by unfold isDig; decide)
theorem has_sharp {l : List UInt8} (h : (35 : UInt8) ∈ l) : whoO l = none ∧ reaOk l = false := by
  have h35 : (35 : UInt8) ∈ csL l := mem_csL h (by decide) (by decide)
  refine ⟨?_, ?_⟩
  · unfold whoO; rw [rd_sharp h35]; rfl
  · rcases split_E l with hn | ⟨a, x, b, rfl, hx, ha⟩
    · rw [(rea_noE hn).1]; exact man_sharp h35
    · rw [(rea_E hx ha).1]
      rcases List.mem_append.1 h with h1 | h1
      · rw [man_sharp (mem_csL h1 (by decide) (by decide)), Bool.and_false]
      · rcases List.mem_cons.1 h1 with h2 | h2
        · rcases hx with rfl | rfl <;> exact absurd h2 (by decide)
        · rw [rd_sharp (mem_csL h2 (by decide) (by decide))]; rfl
theorem nDg_app {a b : List UInt8} {c : UInt8} (ha : allDig a) (hc : ¬ isDig c) : nDg (a ++ c :: b) = a.length := by
  unfold nDg
  induction a with
  | nil =>
    have : isD c = false := by
      cases h : isD c with
      | false => rfl
      | true => exact absurd ((isD_iff c).1 h) hc
    simp [this]
  | cons x t ih =>
    have hx : isD x = true := (isD_iff x).2 (ha x (List.mem_cons_self ..))
    rw [List.cons_append, List.takeWhile_cons, if_pos hx, List.length_cons, ih (fun y hy => ha y (List.mem_cons_of_mem _ hy)), List.length_cons]
theorem first_of {l : List UInt8} {c : UInt8} (h : c ∈ l) : ∃ a b, l = a ++ c :: b ∧ ∀ x ∈ a, x ≠ c := by
  induction l with
  | nil => cases h
  | cons x t ih =>
    by_cases hx : x = c
    · exact ⟨[], t, by rw [hx]; rfl, by simp⟩
    · rcases List.mem_cons.1 h with h | h
      · exact absurd h.symm hx
      · obtain ⟨a, b, h1, h2⟩ := ih h
        refine ⟨x :: a, b, by rw [h1]; rfl, ?_⟩
        intro y hy
        rcases List.mem_cons.1 hy with rfl | hy
        · exact hx
        · exact h2 y hy
/-- has the text the form of a radix number? -/
def rxC (l : List UInt8) : Prop := 1 ≤ nDg l ∧ nDg l ≤ 2 ∧ nDg l + 1 < l.length ∧ l[nDg l]? = some 35
def tokP (l : List UInt8) : Int × Int × Bool × Int := if (whoO l).isSome = true then (1, (whoO l).getD 0, true, 0) else (reaK l, reaV l, reaOk l, reaE l)
theorem tok_plain {l : List UInt8} (h64 : l.length ≤ 64) (hc : ¬ rxC l) : tokR l = tokP l := by
  by_cases h : (35 : UInt8) ∈ l
  · obtain ⟨a, b, hab, hna⟩ := first_of h
    have hcut : Lib.cut l [35] = (a, b, true) := by rw [hab]; exact cut_app hna
    have hrx : rxOk a b = false := by
      cases hr : rxOk a b with
      | false => rfl
      | true =>
        exfalso; apply hc
        unfold rxOk at hr
        simp only [Bool.and_eq_true, decide_eq_true_eq] at hr
        obtain ⟨⟨⟨⟨r1, r2⟩, r3⟩, r4⟩, r5⟩ := hr
        obtain ⟨q1, q2⟩ := rdOk10.1 r1
        have hn : nDg l = a.length := by rw [hab]; exact nDg_app q1 (by unfold isDig; decide)
        have hb : b ≠ [] := by
          intro e; rw [e] at r5; unfold rdOk at r5; simp at r5
        have ha1 : 1 ≤ a.length := by cases a with | nil => exact absurd rfl q2 | cons x y => simp
        have hb1 : 1 ≤ b.length := by cases b with | nil => exact absurd rfl hb | cons x y => simp
        refine ⟨by omega, by omega, ?_, ?_⟩
        · rw [hn, hab]; simp; omega
        · rw [hn, hab, List.getElem?_append_right (Nat.le_refl _)]; simp
    obtain ⟨w1, w2⟩ := has_sharp h
    unfold tokR tokP
    rw [if_neg (by omega), hcut]
    simp only [if_true, hrx, w1]
    unfold reaK reaV reaE; rw [w2]; rfl
  · unfold tokR tokP
    rw [if_neg (by omega), no_hash (fun x hx e => h (by rw [← e]; exact hx)), if_neg (by simp)]
/-- a real, by its mantissa and its power -/
def realT (a : List UInt8) (q : Int) : Int × Int × Bool × Int :=
  if manOk (csL a) = true then (if fits (sgn (csB a) (manN (csL a) q)) = true then (2, sgn (csB a) (manN (csL a) q), true, 0) else (0, 0, true, 9)) else (0, 0, false, 0)
theorem real_of {l a : List UInt8} {q : Int} (hw : whoO l = none) (h1 : reaOk l = manOk (csL a)) (h2 : reaN l = sgn (csB a) (manN (csL a) q)) : tokP l = realT a q := by
  unfold tokP realT; rw [hw]
  simp only [Option.isSome_none, Bool.false_eq_true, if_false]
  unfold reaK reaV reaE; rw [h1, h2]
  cases manOk (csL a) <;> cases fits (sgn (csB a) (manN (csL a) q)) <;> rfl
theorem tok_noE {l : List UInt8} (hw : whoO l = none) (h : noE l) : tokP l = realT l 0 := real_of hw (rea_noE h).1 (rea_noE h).2
theorem tok_E {a b : List UInt8} {x : UInt8} (hw : whoO (a ++ x :: b) = none) (hx : x = 101 ∨ x = 69) (h : noE a) (hg : (rdOk 10 (csL b) && decide ((csL b).length ≤ 3)) = true) : tokP (a ++ x :: b) = realT a (sgn (csB b) (rdV 10 (csL b))) :=
  real_of hw (by rw [(rea_E hx h).1, hg]; rfl) (rea_E hx h).2
theorem tok_Ebad {a b : List UInt8} {x : UInt8} (hw : whoO (a ++ x :: b) = none) (hx : x = 101 ∨ x = 69) (h : noE a) (hg : (rdOk 10 (csL b) && decide ((csL b).length ≤ 3)) = false) : tokP (a ++ x :: b) = (0, 0, false, 0) := by
  have h1 : reaOk (a ++ x :: b) = false := by rw [(rea_E hx h).1, hg]; rfl
  unfold tokP; rw [hw]
  simp only [Option.isSome_none, Bool.false_eq_true, if_false]
  unfold reaK reaV reaE; rw [h1]; rfl
/-- a radix number -/
def rxR (B : Int) (d : List UInt8) : Int × Int × Bool × Int :=
  if 2 ≤ B ∧ B ≤ 36 ∧ (rdD B d 0).isSome = true then
    (if 4294967296 ≤ rdV B d then (0, 0, true, 9) else if rdV B d < 2147483648 then (1, rdV B d, true, 0) else (1, rdV B d - 4294967296, true, 0))
  else (0, 0, false, 0)
theorem tok_rx {l a d : List UInt8} (h64 : l.length ≤ 64) (hl : l = a ++ 35 :: d) (ha : allDig a) (h1 : 1 ≤ a.length) (h2 : a.length ≤ 2) (hd : d ≠ []) : tokR l = rxR (rdV 10 a) d := by
  have hcut : Lib.cut l [35] = (a, d, true) := by rw [hl]; exact cut_app (dig_no35 ha)
  have hra : rdOk 10 a = true := rdOk10.2 ⟨ha, by intro e; rw [e] at h1; simp at h1⟩
  have hde : d.isEmpty = false := by cases d with | nil => exact absurd rfl hd | cons x y => rfl
  have hrd : rdOk (rdV 10 a) d = (rdD (rdV 10 a) d 0).isSome := by unfold rdOk; rw [hde]; simp
  unfold tokR rxR rxT rxN
  rw [if_neg (by omega), hcut]
  simp only [if_true]
  unfold rxOk; rw [hra, hrd, decide_eq_true h2]
  obtain ⟨B, hB⟩ : ∃ B, rdV 10 a = B := ⟨_, rfl⟩
  rw [hB]
  by_cases b1 : 2 ≤ B
  · by_cases b2 : B ≤ 36
    · cases hs : (rdD B d 0).isSome
      · simp
      · simp [b1, b2]
        split
        · rfl
        · split <;> rfl
    · simp [b2]
  · simp [b1]
end Dc
end Go.Proofs.Ytaebpjcigajolaa
