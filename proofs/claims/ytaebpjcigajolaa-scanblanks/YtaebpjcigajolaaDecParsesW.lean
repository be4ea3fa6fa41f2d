/-
  The document's Parse, and the walk of the law DecParses.
-/
import Derived.Test.YtaebpjcigajolaaDecScaled
import Derived.Test.YtaebpjcigajolaaDecRefPrint
import Derived.Test.YtaebpjcigajolaaDecCut
namespace Go.Proofs.Ytaebpjcigajolaa
open Go.RowKit
open Fx Dc
namespace Dc
theorem isD_iff (c : UInt8) : isD c = true ↔ isDig c := by unfold isD isDig; simp
theorem take_dig (l : List UInt8) : allDig (l.take (nDg l)) := by
  intro c hc
  have h1 : l.take (nDg l) = l.takeWhile isD := by
    have h2 := List.takeWhile_append_dropWhile (p := isD) (l := l)
    have h3 : (l.takeWhile isD ++ l.dropWhile isD).take (l.takeWhile isD).length = l.takeWhile isD := List.take_left
    rw [h2] at h3; exact h3
  rw [h1] at hc
  have := List.all_takeWhile (p := isD) (l := l)
  rw [List.all_eq_true] at this
  exact (isD_iff c).1 (this c hc)
theorem drop_head (l : List UInt8) (c : UInt8) (h : (plR l).head? = some c) : ¬ isDig c := by
  unfold plR at h
  rw [List.head?_drop] at h
  rcases nDg_at (Nat.le_refl _) h with ⟨_, h2⟩ | ⟨h1, _⟩
  · omega
  · intro h2; rw [(isD_iff c).2 h2] at h1; cases h1
theorem plR_all {l : List UInt8} (h : allDig l) : plR l = [] := by
  cases hr : plR l with
  | nil => rfl
  | cons c t =>
    have h1 : (plR l).head? = some c := by rw [hr]; rfl
    have h2 := drop_head l c h1
    have h3 : c ∈ plR l := by rw [hr]; exact List.mem_cons_self ..
    exact absurd (h c (List.mem_of_mem_drop h3)) h2
theorem split_at (l : List UInt8) : l.take (nDg l) ++ plR l = l := List.take_append_drop _ _
/-- with digits, a point, and the rest: what Cut tells -/
theorem man_of_has {l : List UInt8} (h : plHas l = true) : manA l = l.take (nDg l) ∧ manB l = plY l := by
  have h1 : (plR l).head? = some 46 := by unfold plHas at h; simpa using h
  obtain ⟨t, ht⟩ : ∃ t, plR l = 46 :: t := by
    cases hr : plR l with
    | nil => rw [hr] at h1; simp at h1
    | cons c t => rw [hr] at h1; simp at h1; exact ⟨t, by rw [h1]⟩
  have hs := split_at l
  rw [ht] at hs
  have hc : Lib.cut l [46] = (l.take (nDg l), t, true) := by
    conv => lhs; rw [← hs]
    exact cut_app (fun x hx => not46 (take_dig l x hx))
  unfold manA manB plY
  rw [hc, ht]; exact ⟨rfl, rfl⟩
theorem cut_none {l : List UInt8} (h : ∀ x ∈ l, x ≠ 46) : Lib.cut l [46] = (l, [], false) := by
  have h1 : Lib.index l [46] = -1 := by rw [Lib.index_one, indexByte_neg h]
  unfold Lib.cut; rw [h1]; rfl
theorem mem_man (l : List UInt8) (c : UInt8) (hc : c ∈ l) (hne : c ≠ 46) : c ∈ man l := by
  by_cases hm : (46 : UInt8) ∈ l
  · obtain ⟨a, b, hab, hna⟩ : ∃ a b, l = a ++ 46 :: b ∧ ∀ x ∈ a, x ≠ 46 := by
      induction l with
      | nil => cases hm
      | cons x t ih =>
        by_cases hx : x = 46
        · exact ⟨[], t, by rw [hx]; rfl, by simp⟩
        · have hmt : (46 : UInt8) ∈ t := by
            rcases List.mem_cons.1 hm with h | h
            · exact absurd h.symm hx
            · exact h
          by_cases hct : c ∈ t
          · obtain ⟨a, b, h1, h2⟩ := ih hct hmt
            exact ⟨x :: a, b, by rw [h1]; rfl, fun y hy => by rcases List.mem_cons.1 hy with rfl | hy; exact hx; exact h2 y hy⟩
          · clear ih
            have hfull : ∀ t : List UInt8, (46 : UInt8) ∈ t → ∃ a b, t = a ++ 46 :: b ∧ ∀ x ∈ a, x ≠ 46 := by
              intro t
              induction t with
              | nil => intro h; cases h
              | cons y u ihu =>
                intro h
                by_cases hy : y = 46
                · exact ⟨[], u, by rw [hy]; rfl, by simp⟩
                · have : (46 : UInt8) ∈ u := by
                    rcases List.mem_cons.1 h with h | h
                    · exact absurd h.symm hy
                    · exact h
                  obtain ⟨a, b, h1, h2⟩ := ihu this
                  exact ⟨y :: a, b, by rw [h1]; rfl, fun z hz => by rcases List.mem_cons.1 hz with rfl | hz; exact hy; exact h2 z hz⟩
            obtain ⟨a, b, h1, h2⟩ := hfull t hmt
            exact ⟨x :: a, b, by rw [h1]; rfl, fun y hy => by rcases List.mem_cons.1 hy with rfl | hy; exact hx; exact h2 y hy⟩
    have hcut : Lib.cut l [46] = (a, b, true) := by rw [hab]; exact cut_app hna
    unfold man manA manB; rw [hcut]
    rw [hab] at hc
    rcases List.mem_append.1 hc with h | h
    · exact List.mem_append.2 (Or.inl h)
    · rcases List.mem_cons.1 h with h | h
      · exact absurd h hne
      · exact List.mem_append.2 (Or.inr h)
  · have hcut := cut_none (l := l) (fun x hx e => hm (by rw [← e]; exact hx))
    unfold man manA manB; rw [hcut]; simpa using hc
/-- what plain takes for a number is just what Cut and digits alone make one, and it says the same -/
theorem plain_man (l : List UInt8) : plOk l = manOk l ∧ (plOk l = true → plD l = man l ∧ nDg l = (manA l).length) := by
  cases hh : plHas l with
  | true =>
    obtain ⟨h1, h2⟩ := man_of_has hh
    have hD : plD l = l.take (nDg l) ++ (plY l).take (nDg (plY l)) := by unfold plD; rw [hh, if_pos rfl]
    have hZ : plZ l = plR (plY l) := by unfold plZ; rw [hh, if_pos rfl]; rfl
    have hm : man l = l.take (nDg l) ++ plY l := by unfold man; rw [h1, h2]
    have hA : (manA l).length = nDg l := by rw [h1, List.length_take]; have := nDg_le l; omega
    by_cases hy : allDig (plY l)
    · have hr := plR_all hy
      have hyD : (plY l).take (nDg (plY l)) = plY l := by have := split_at (plY l); rw [hr, List.append_nil] at this; exact this
      rw [hyD] at hD
      have e : plD l = man l := by rw [hD, hm]
      have hok : manOk l = plOk l := by
        unfold manOk plOk; rw [hZ, hr, e]
        have : allDig (man l) := by
          rw [hm]; intro c hc
          rcases List.mem_append.1 hc with h | h
          · exact take_dig l c h
          · exact hy c h
        rw [(allD_iff _).2 this]; rfl
      exact ⟨hok.symm, fun _ => ⟨e, hA.symm⟩⟩
    · have hr : plR (plY l) ≠ [] := by
        intro h
        apply hy
        have := split_at (plY l); rw [h, List.append_nil] at this
        rw [← this]; exact take_dig _
      have h3 : plOk l = false := by
        unfold plOk; rw [hZ]
        cases hz : plR (plY l) with
        | nil => exact absurd hz hr
        | cons x t => rfl
      have h4 : manOk l = false := by
        unfold manOk
        cases ha : allD (man l) with
        | false => rfl
        | true =>
          exfalso; apply hy
          have := (allD_iff _).1 ha
          intro c hc
          exact this c (by rw [hm]; exact List.mem_append.2 (Or.inr hc))
      exact ⟨by rw [h3, h4], fun h => by rw [h3] at h; cases h⟩
  | false =>
    have hD : plD l = l.take (nDg l) := by unfold plD; rw [hh, if_neg (by simp)]
    have hZ : plZ l = plR l := by unfold plZ; rw [hh, if_neg (by simp)]
    cases hr : plR l with
    | nil =>
      have hl : l.take (nDg l) = l := by have := split_at l; rw [hr, List.append_nil] at this; exact this
      have hall : allDig l := by rw [← hl]; exact take_dig l
      have hcut := cut_none (l := l) (fun x hx => not46 (hall x hx))
      have hm : man l = l := by unfold man manA manB; rw [hcut]; simp
      have hA : manA l = l := by unfold manA; rw [hcut]
      have e : plD l = man l := by rw [hD, hl, hm]
      refine ⟨?_, fun _ => ⟨e, ?_⟩⟩
      · unfold plOk manOk; rw [hZ, hr, e, (allD_iff _).2 (by rw [hm]; exact hall)]; rfl
      · rw [hA]; have := congrArg List.length hl; rw [List.length_take] at this; have := nDg_le l; omega
    | cons c t =>
      have h3 : plOk l = false := by unfold plOk; rw [hZ, hr]; rfl
      have hc1 : (plR l).head? = some c := by rw [hr]; rfl
      have hnd := drop_head l c hc1
      have hne : c ≠ 46 := by
        intro e; unfold plHas at hh; rw [hc1, e] at hh; simp at hh
      have hcl : c ∈ l := List.mem_of_mem_drop (by show c ∈ plR l; rw [hr]; exact List.mem_cons_self ..)
      have h4 : manOk l = false := by
        unfold manOk
        cases ha : allD (man l) with
        | false => rfl
        | true => exact absurd ((allD_iff _).1 ha c (mem_man l c hcl hne)) hnd
      exact ⟨by rw [h3, h4], fun h => by rw [h3] at h; cases h⟩
/-- the document's way of rounding and the program's are one -/
theorem sc_rnd (xs : List Nat) (hx : digs xs) (p : Int) : (scOk xs p = true → scN xs p = rndD xs p) ∧ (scOk xs p = false → 6553600000 ≤ rndD xs p) := by
  have hc := dbl_carry _ (dbls_digs 16 (fracP xs p) (fromP_digs hx _ _))
  have hS := whS_eq xs p.toNat
  unfold scOk
  constructor
  · intro h
    have h1 : whU xs p.toNat ≤ 99999 := by simpa using h
    unfold scN rndD
    rw [if_pos h1, hS]
    have e : (dbls 17 (fracP xs p)).2 = 2 * (dbls 16 (fracP xs p)).2 + (dbl (dbls 16 (fracP xs p)).1).2 := rfl
    rw [e]; omega
  · intro h
    have h1 : ¬ whU xs p.toNat ≤ 99999 := by simpa using h
    unfold rndD; rw [hS]; omega
theorem sgn_far (b : Bool) (n : Int) (h : 6553600000 ≤ n) : fits (sgn b n) = false := by
  rw [fits_no]; unfold sgn; split <;> omega
end Dc
end Go.Proofs.Ytaebpjcigajolaa
