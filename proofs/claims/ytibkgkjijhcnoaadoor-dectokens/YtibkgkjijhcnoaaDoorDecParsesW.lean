/-
  The document's Parse, and the walk of the law DecParses.
-/
import Derived.Test.YtibkgkjijhcnoaaDoorDecScaled
import Derived.Test.YtibkgkjijhcnoaaDoorDecRefPrint
import Derived.Test.YtibkgkjijhcnoaaDoorDecCut
namespace Go.Proofs.YtibkgkjijhcnoaaDoor
open Go.RowKit
open Fx Dc
namespace Dc
theorem isD_iff (c : UInt8) : isD c = true ↔ isDig c := by unfold isD isDig; simp
theorem take_dig (l : List UInt8) : allDig (l.take (nDg l)) := by
  intro c hc
  have h1 : l.take (nDg l) = l.takeWhile isD := by
    have h2 := List.takeWhile_append_dropWhile (p := isD) (l := l)
    have h3 : (l.takeWhile isD ++ l.dropWhile isD).take (l.takeWhile isD).length = l.takeWhile isD := List.take_left
    rw [h2] at h3; exact h3
  rw [h1] at hc
  have := List.all_takeWhile (p := isD) (l := l)
  rw [List.all_eq_true] at this
  exact (isD_iff c).1 (this c hc)
theorem drop_head (l : List UInt8) (c : UInt8) (h : (plR l).head? = some c) : ¬ isDig c := by
  unfold plR at h
  rw [List.head?_drop] at h
  rcases nDg_at (Nat.le_refl _) h with ⟨_, h2⟩ | ⟨h1, _⟩
  · omega
  · intro h2; rw [(isD_iff c).2 h2] at h1; cases h1
theorem plR_all {l : List UInt8} (h : allDig l) : plR l = [] := by
  cases hr : plR l with
  | nil => rfl
  | cons c t =>
    have h1 : (plR l).head? = some c := by rw [hr]; rfl
    have h2 := drop_head l c h1
    have h3 : c ∈ plR l := by rw [hr]; exact List.mem_cons_self ..
    exact absurd (h c (List.mem_of_mem_drop h3)) h2
theorem split_at (l : List UInt8) : l.take (nDg l) ++ plR l = l := List.take_append_drop _ _
/-- with digits, a point, and the rest: what Cut tells -/
theorem man_of_has {l : List UInt8} (h : plHas l = true) : manA l = l.take (nDg l) ∧ manB l = plY l := by
  have h1 : (plR l).head? = some 46 := by unfold plHas at h; simpa using h
  obtain ⟨t, ht⟩ : ∃ t, plR l = 46 :: t := by
    cases hr : plR l with
    | nil => rw [hr] at h1; simp at h1
    | cons c t => rw [hr] at h1; simp at h1; exact ⟨t, by rw [h1]⟩
  have hs := split_at l
  rw [ht] at hs
  have hc : Lib.cut l [46] = (l.take (nDg l), t, true) := by
    conv => lhs; rw [← hs]
    exact cut_app (fun x hx => not46 (take_dig l x hx))
  unfold manA manB plY
  rw [hc, ht]; exact ⟨rfl, rfl⟩
theorem cut_none {l : List UInt8} (h : ∀ x ∈ l, x ≠ 46) : Lib.cut l [46] = (l, [], false) := by
  have h1 : Lib.index l [46] = -1 := by rw [Lib.index_one, indexByte_neg h]
  unfold Lib.cut; rw [h1]; rfl
theorem mem_man (l : List UInt8) (c : UInt8) (hc : c ∈ l) (hne : c ≠ 46) : c ∈ man l := by
  by_cases hm : (46 : UInt8) ∈ l
  · obtain ⟨a, b, hab, hna⟩ : ∃ a b, l = a ++ 46 :: b ∧ ∀ x ∈ a, x ≠ 46 := by
      induction l with
      | nil => cases hm
      | cons x t ih =>
        by_cases hx : x = 46
        · exact ⟨[], t, by rw [hx]; rfl, by simp⟩
        · have hmt : (46 : UInt8) ∈ t := by
            rcases List.mem_cons.1 hm with h | h
            · exact absurd h.symm hx
            · exact h
          by_cases hct : c ∈ t
          · obtain ⟨a, b, h1, h2⟩ := ih hct hmt
            exact ⟨x :: a, b, by rw [h1]; rfl, fun y hy => by rcases List.mem_cons.1 hy with rfl | hy; exact hx; exact h2 y hy⟩
          · clear ih
            have hfull : ∀ t : List UInt8, (46 : UInt8) ∈ t → ∃ a b, t = a ++ 46 :: b ∧ ∀ x ∈ a, x ≠ 46 := by
              intro t
              induction t with
              | nil => intro h; cases h
              | cons y u ihu =>
                intro h
                by_cases hy : y = 46
                · exact ⟨[], u, by rw [hy]; rfl, by simp⟩
                · have : (46 : UInt8) ∈ u := by
                    rcases List.mem_cons.1 h with h | h
                    · exact absurd h.symm hy
                    · exact h
                  obtain ⟨a, b, h1, h2⟩ := ihu this
                  exact ⟨y :: a, b, by rw [h1]; rfl, fun z hz => by rcases List.mem_cons.1 hz with rfl | hz; exact hy; exact h2 z hz⟩
            obtain ⟨a, b, h1, h2⟩ := hfull t hmt
            exact ⟨x :: a, b, by rw [h1]; rfl, fun y hy => by rcases List.mem_cons.1 hy with rfl | hy; exact hx; exact h2 y hy⟩
    have hcut : Lib.cut l [46] = (a, b, true) := by rw [hab]; exact cut_app hna
    unfold man manA manB; rw [hcut]
    rw [hab] at hc
    rcases List.mem_append.1 hc with h | h
    · exact List.mem_append.2 (Or.inl h)
    · rcases List.mem_cons.1 h with h | h
      · exact absurd h hne
      · exact List.mem_append.2 (Or.inr h)
  · have hcut := cut_none (l := l) (fun x hx e => hm (by rw [← e]; exact hx))
    unfold man manA manB; rw [hcut]; simpa using hc
/-- what plain takes for a number is just what Cut and digits alone make one, and it says the same -/
theorem plain_man (l : List UInt8) : plOk l = manOk l ∧ (plOk l = true → plD l = man l ∧ nDg l = (manA l).length) := by
  cases hh : plHas l with
  | true =>
    obtain ⟨h1, h2⟩ := man_of_has hh
    have hD : plD l = l.take (nDg l) ++ (plY l).take (nDg (plY l)) := by unfold plD; rw [hh, if_pos rfl]
    have hZ : plZ l = plR (plY l) := by unfold plZ; rw [hh, if_pos rfl]; rfl
    have hm : man l = l.take (nDg l) ++ plY l := by unfold man; rw [h1, h2]
    have hA : (manA l).length = nDg l := by rw [h1, List.length_take]; have := nDg_le l; omega
    by_cases hy : allDig (plY l)
    · have hr := plR_all hy
      have hyD : (plY l).take (nDg (plY l)) = plY l := by have := split_at (plY l); rw [hr, List.append_nil] at this; exact this
      rw [hyD] at hD
      have e : plD l = man l := by rw [hD, hm]
      have hok : manOk l = plOk l := by
        unfold manOk plOk; rw [hZ, hr, e]
        have : allDig (man l) := by
          rw [hm]; intro c hc
          rcases List.mem_append.1 hc with h | h
          · exact take_dig l c h
          · exact hy c h
        rw [(allD_iff _).2 this]; rfl
      exact ⟨hok.symm, fun _ => ⟨e, hA.symm⟩⟩
    · have hr : plR (plY l) ≠ [] := by
        intro h
        apply hy
        have := split_at (plY l); rw [h, List.append_nil] at this
        rw [← this]; exact take_dig _
      have h3 : plOk l = false := by
        unfold plOk; rw [hZ]
        cases hz : plR (plY l) with
        | nil => exact absurd hz hr
        | cons x t => rfl
      have h4 : manOk l = false := by
        unfold manOk
        cases ha : allD (man l) with
        | false => rfl
        | true =>
          exfalso; apply hy
          have := (allD_iff _).1 ha
          intro c hc
          exact this c (by rw [hm]; exact List.mem_append.2 (Or.inr hc))
      exact ⟨by rw [h3, h4], fun h => by rw [h3] at h; cases h⟩
  | false =>
    have hD : plD l = l.take (nDg l) := by unfold plD; rw [hh, if_neg (by simp)]
    have hZ : plZ l = plR l := by unfold plZ; rw [hh, if_neg (by simp)]
    cases hr : plR l with
    | nil =>
      have hl : l.take (nDg l) = l := by have := split_at l; rw [hr, List.append_nil] at this; exact this
      have hall : allDig l := by rw [← hl]; exact take_dig l
      have hcut := cut_none (l := l) (fun x hx => not46 (hall x hx))
      have hm : man l = l := by unfold man manA manB; rw [hcut]; simp
      have hA : manA l = l := by unfold manA; rw [hcut]
      have e : plD l = man l := by rw [hD, hl, hm]
      refine ⟨?_, fun _ => ⟨e, ?_⟩⟩
      · unfold plOk manOk; rw [hZ, hr, e, (allD_iff _).2 (by rw [hm]; exact hall)]; rfl
      · rw [hA]; have := congrArg List.length hl; rw [List.length_take] at this; have := nDg_le l; omega
    | cons c t =>
      have h3 : plOk l = false := by unfold plOk; rw [hZ, hr]; rfl
      have hc1 : (plR l).head? = some c := by rw [hr]; rfl
      have hnd := drop_head l c hc1
      have hne : c ≠ 46 := by
        intro e; unfold plHas at hh; rw [hc1, e] at hh; simp at hh
      have hcl : c ∈ l := List.mem_of_mem_drop (by show c ∈ plR l; rw [hr]; exact List.mem_cons_self ..)
      have h4 : manOk l = false := by
        unfold manOk
        cases ha : allD (man l) with
        | false => rfl
        | true => exact absurd ((allD_iff _).1 ha c (mem_man l c hcl hne)) hnd
      exact ⟨by rw [h3, h4], fun h => by rw [h3] at h; cases h⟩
/-- the document's way of rounding and the program's are one -/
theorem sc_rnd (xs : List Nat) (hx : digs xs) (p : Int) : (scOk xs p = true → scN xs p = rndD xs p) ∧ (scOk xs p = false → 6553600000 ≤ rndD xs p) := by
  have hc := dbl_carry _ (dbls_digs 16 (fracP xs p) (fromP_digs hx _ _))
  have hS := whS_eq xs p.toNat
  unfold scOk
  constructor
  · intro h
    have h1 : whU xs p.toNat ≤ 99999 := by simpa using h
    unfold scN rndD
    rw [if_pos h1, hS]
    have e : (dbls 17 (fracP xs p)).2 = 2 * (dbls 16 (fracP xs p)).2 + (dbl (dbls 16 (fracP xs p)).1).2 := rfl
    rw [e]; omega
  · intro h
    have h1 : ¬ whU xs p.toNat ≤ 99999 := by simpa using h
    unfold rndD; rw [hS]; omega
theorem sgn_far (b : Bool) (n : Int) (h : 6553600000 ≤ n) : fits (sgn b n) = false := by
  rw [fits_no]; unfold sgn; split <;> omega
end Dc
theorem refParse_long (s : ByteArray) (hs : 64 < s.size) (hs2 : s.size ≤ 3000) (w : World) : Calls Tryd.prog 15 #[.string s] w (ParPost none w) := by
  go_enter Tryd.func15, Tryd.ntmps15
  go_wp2_with fail
  go_ret2
  exact ⟨rfl, Below.refl _ _⟩
theorem refParse_short (s : ByteArray) (hs : s.size ≤ 64) (w : World) : Calls Tryd.prog 15 #[.string s] w (ParPost (parseO s.data.toList) w) := by
  have hp : parseO s.data.toList = numO (csL s.data.toList) 0 (csB s.data.toList) := by unfold parseO; rw [if_pos (by rw [← size_list]; exact hs)]
  rw [hp]
  have HS := Lib.hid (refPlain_any s hs w)
  obtain ⟨l, hl⟩ : ∃ l, csL s.data.toList = l := ⟨_, rfl⟩
  obtain ⟨b, hb⟩ : ∃ b, csB s.data.toList = b := ⟨_, rfl⟩
  have hll : l.length ≤ 64 := by rw [← hl]; have := csL_len s.data.toList; rw [← size_list] at this; omega
  rw [hl, hb]
  rw [hl, hb] at HS
  clear hp hl hb
  obtain ⟨hpm1, hpm2⟩ := plain_man l
  have hnd := nDg_le l
  cases hok : plOk l
  · have HO : Hid (numO l 0 b = none) := numO_none (by rw [← hpm1]; exact hok)
    have HK := Lib.hid hok
    clear hpm1 hpm2 hok
    go_enter Tryd.func15, Tryd.ntmps15
    go_wp2_with fail
    refine HS.out.mono ?_
    rintro e w' ⟨d, rfl, hd, rfl⟩
    rw [HK.out]
    clear hd
    go_wp2_with fail
    go_ret2
    exact ⟨by rw [HO.out]; rfl, Below.refl _ _⟩
  · obtain ⟨hD, hA⟩ := hpm2 hok
    have hmok : manOk l = true := by rw [← hpm1]; exact hok
    have hall : allDig (man l) := by
      unfold manOk at hmok
      cases h : allD (man l) with
      | true => exact (allD_iff _).1 h
      | false => rw [h] at hmok; cases hmok
    have hml := man_len2 l
    obtain ⟨a, ha⟩ : ∃ a, nDg l = a := ⟨_, rfl⟩
    have hmn : manN l 0 = ((rndD (digits (man l)) (a : Int) : Nat) : Int) := by unfold manN; rw [← hA, ha]; simp
    obtain ⟨s1, s2⟩ := sc_rnd (digits (man l)) (digits_digs hall) (a : Int)
    have hrb := rndD_bd (digits_digs hall) (a : Int)
    obtain ⟨R, hR⟩ : ∃ R, rndD (digits (man l)) (a : Int) = R := ⟨_, rfl⟩
    rw [hR] at hmn s1 s2 hrb
    rw [ha] at hnd
    have HK := Lib.hid hok
    have HD := Lib.hid hD
    have HALL := Lib.hid hall
    have HHa := Lib.hid ha
    cases hsc : scOk (digits (man l)) (a : Int)
    · have hfar := s2 hsc
      have HO : Hid (numO l 0 b = none) := numO_nofit (by rw [hmn]; exact sgn_far b R (by omega))
      have HSC := Lib.hid hsc
      clear hpm1 hpm2 hok hD hA hmok hall ha hmn s1 s2 hR hsc
      go_enter Tryd.func15, Tryd.ntmps15
      go_wp2_with fail
      refine HS.out.mono ?_
      rintro e w' ⟨d, rfl, hd, rfl⟩
      rw [HD.out] at hd
      have hds : d.size ≤ 64 := len_le hd (by omega)
      have hSc := scaled_any d (a : Int) (by rw [hd]; exact HALL.out) (by omega) (by omega) (by omega) w
      rw [hd, HSC.out] at hSc
      obtain ⟨V, hV⟩ : ∃ V : Nat, scN (digits (man l)) (a : Int) = V := ⟨_, rfl⟩
      rw [hV] at hSc
      have HSc := Lib.hid hSc
      rw [HK.out, HHa.out]
      clear hd hSc hV
      go_wp2_with fail
      refine HSc.out.mono ?_
      rintro e w1 ⟨rfl, hb1⟩
      have HB1 := Lib.hid hb1
      clear hb1
      go_wp2_with fail
      go_ret2
      exact ⟨by rw [HO.out]; rfl, HB1.out⟩
    · have hV := s1 hsc
      have HSC := Lib.hid (And.intro hsc hV)
      have HO : Hid (numO l 0 b = if fits (sgn b (R : Int)) = true then some (sgn b (R : Int)) else none) := by
        unfold Hid numO; rw [hmok, Bool.true_and, hmn]
      clear hpm1 hpm2 hok hD hA hmok hall ha hmn s1 s2 hR hsc hV
      go_enter Tryd.func15, Tryd.ntmps15
      go_wp2_with fail
      refine HS.out.mono ?_
      rintro e w' ⟨d, rfl, hd, rfl⟩
      rw [HD.out] at hd
      have hds : d.size ≤ 64 := len_le hd (by omega)
      have hSc := scaled_any d (a : Int) (by rw [hd]; exact HALL.out) (by omega) (by omega) (by omega) w
      rw [hd, HSC.out.1, HSC.out.2] at hSc
      have HSc := Lib.hid hSc
      rw [HK.out, HHa.out]
      clear hd hSc
      go_wp2_with fail
      refine HSc.out.mono ?_
      rintro e w1 ⟨rfl, hb1⟩
      have HB1 := Lib.hid hb1
      clear hb1
      go_wp2_with fail
      refine (refSigned_any _ b _ (by omega) (by omega)).mono ?_
      rintro e w2 ⟨rfl, rfl⟩
      have HE : Hid (∀ o, numO l 0 b = o → o.getD 0 = (if fits (sgn b (R : Int)) = true then sgn b (R : Int) else 0) ∧ o.isSome = fits (sgn b (R : Int))) := by
        rintro o rfl
        rw [HO.out]
        cases fits (sgn b (R : Int)) <;> simp
      obtain ⟨V, hV⟩ : ∃ V : Int, (if fits (sgn b (R : Int)) = true then sgn b (R : Int) else 0) = V := ⟨_, rfl⟩
      obtain ⟨K, hK⟩ : ∃ K : Bool, fits (sgn b (R : Int)) = K := ⟨_, rfl⟩
      rw [hV, hK]
      have HE2 : Hid ((numO l 0 b).getD 0 = V ∧ (numO l 0 b).isSome = K) := by
        have := HE.out _ rfl; rw [hV, hK] at this; exact this
      clear hV hK
      go_wp2_with fail
      go_ret2
      exact ⟨by rw [HE2.out.1, HE2.out.2]; rfl, HB1.out⟩
theorem refParse_any (s : ByteArray) (hs : s.size ≤ 3000) (w : World) : Calls Tryd.prog 15 #[.string s] w (ParPost (parseO s.data.toList) w) := by
  by_cases h : s.size ≤ 64
  · exact refParse_short s h w
  · have hp : parseO s.data.toList = none := by unfold parseO; rw [if_neg (by rw [← size_list]; exact h)]
    rw [hp]
    exact refParse_long s (by omega) hs w
theorem lawDecParses (s : ByteArray) (hmax : s.size ≤ maxLen) (w : World) (ht : Tab w) (hm : Mx w) : Calls Tryd.prog 4 #[.string s] w fun e w' => e = .returned (.bool true) ∧ Below w.heap.size w w' := by
  unfold maxLen at hmax
  have HT := Lib.hid ht
  have HM := Lib.hid hm
  clear ht hm
  by_cases hs : s.size ≤ 3000
  · obtain ⟨n, hn⟩ : ∃ n, (parseO s.data.toList).getD 0 = n := ⟨_, rfl⟩
    obtain ⟨k, hk⟩ : ∃ k, (parseO s.data.toList).isSome = k := ⟨_, rfl⟩
    have h1 := decParse_any s hs w HM.out
    have h2 := fun w => refParse_any s hs w
    unfold ParPost at h1 h2
    rw [hn, hk] at h1 h2
    have H1 := Lib.hid h1
    have H2 := Lib.hid h2
    have hc : decide (3000 < (s.size : Int)) = false := decide_eq_false (by omega)
    clear h1 h2 hn hk
    go_enter Tryd.func4, Tryd.ntmps4
    go_wp2_with fail
    refine H1.out.mono ?_
    rintro e w1 ⟨rfl, hb1⟩
    have HB1 := Lib.hid hb1
    clear hb1
    go_wp2_with fail
    refine (H2.out _).mono ?_
    rintro e w2 ⟨rfl, hb2⟩
    have HB2 := Lib.hid (bthen HB1.out hb2)
    clear hb2
    go_wp2_with fail
    refine (answers2_any _ (HT.out.below HB2.out)).mono ?_
    rintro e w3 ⟨rfl, hb3⟩
    have HB3 := Lib.hid (bthen HB2.out hb3)
    clear hb3
    go_wp2_with fail
    go_ret
    exact ⟨rfl, HB3.out⟩
  · have hc : decide (3000 < (s.size : Int)) = true := decide_eq_true (by omega)
    go_enter Tryd.func4, Tryd.ntmps4
    go_wp2_with fail
    refine (answers2_any _ HT.out).mono ?_
    rintro e w3 ⟨rfl, hb3⟩
    have HB3 := Lib.hid hb3
    clear hb3
    go_wp2_with fail
    go_ret
    exact ⟨rfl, HB3.out⟩
end Go.Proofs.YtibkgkjijhcnoaaDoor
