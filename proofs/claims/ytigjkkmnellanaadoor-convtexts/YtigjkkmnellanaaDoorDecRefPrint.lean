/-
  The contracts of the document's Print and PrintReal; the walk of the law DecPrints.
-/
import Derived.Test.YtigjkkmnellanaaDoorDecPrint
namespace Go.Proofs.YtigjkkmnellanaaDoor
open Go.RowKit
open Fx Dc
theorem refDec_at (z : Int) (k : Nat) (hz : z = k) (hk : k ≤ 32768) (w : World) : Calls Tryd.prog 21 #[.int .i64 z] w (StrB (Lib.decDigits k) w) := by
  subst hz
  refine (refDec_nat k w (by omega)).mono ?_
  rintro e w' ⟨rfl, hb⟩
  exact ⟨_, rfl, rfl, hb⟩
def RPartRel (L : List UInt8) (p : Nat) (w : World) (s t : Value) (w' : World) : Prop :=
  ∃ (j r : Nat) (b : ByteArray), j ≤ 16 ∧ r < 65536 ∧ 2 ^ j ∣ r ∧ t = .int .i64 r ∧ s = .string b ∧ b.size = L.length + j ∧ b.data.toList ++ frd (16 - j) r = L ++ frd 16 p ∧ Below w.heap.size w w'
theorem rpart_next {j r : Nat} {b c : ByteArray} {p : Nat} {L : List UInt8} (hj : j ≤ 16) (hr : r < 65536) (h0 : 0 < r) (hd : 2 ^ j ∣ r) (hb : b.size = L.length + j) (hl : b.data.toList ++ frd (16 - j) r = L ++ frd 16 p)
    (hc : c.data.toList = [UInt8.ofNat (48 + r * 10 / 65536)]) : j < 16 ∧ 2 ^ (j + 1) ∣ r * 10 % 65536 ∧ (b ++ c).size = L.length + (j + 1) ∧ (b ++ c).data.toList ++ frd (16 - (j + 1)) (r * 10 % 65536) = L ++ frd 16 p := by
  have hj2 : j < 16 := by
    rcases Nat.lt_or_ge j 16 with h | h
    · exact h
    · obtain rfl : j = 16 := by omega
      have := pow_end r hd hr; omega
  refine ⟨hj2, pow_step j r hd hj2, ?_, ?_⟩
  · rw [size_app, hb, size_list c, hc]; simp; omega
  · have e : 16 - j = (16 - (j + 1)) + 1 := by omega
    rw [e, frd_succ _ _ h0] at hl
    rw [data_app, hc, List.append_assoc]; exact hl
theorem refPrint_pos (m : Nat) (hm : m ≤ 2147483647) (w : World) :
    Calls Tryd.prog 36 #[.int .i64 m] w (StrB (printU m) w) := by
  have hf := Lib.hid (fun w => refFits_yes m w ((fits_iff _).2 ⟨by omega, by omega⟩))
  by_cases h0 : m % 65536 = 0
  · have hz : decide (0 < (m : Int) % 65536) = false := by simp; omega
    obtain ⟨L, hLe⟩ : ∃ L : List UInt8, L = (Lib.decDigits (m / 65536)) := ⟨_, rfl⟩
    have e : printU m = L ++ frd 16 (m % 65536) := by rw [hLe]; unfold printU; rw [if_pos h0]; simp; rw [h0, frd_zero]
    rw [e]
    have hL : L.length ≤ 7 := by have := decDigits_len 4 (m / 65536) (by omega); rw [hLe]; simp; omega
    have HL := Lib.hid hLe
    clear h0 e hLe
    go_enter Tryd.func36, Tryd.ntmps36
    go_wp2_with fail
    refine (hf.out _).mono ?_; rintro e w' ⟨rfl, rfl⟩
    go_wp2_with fail
    refine (refDec_at _ (m / 65536) (by omega) (by omega) _).mono ?_
    rintro e w' ⟨c, rfl, hc, hb⟩
    have hcs : c.size ≤ 5 := len_le hc (decDigits_len 4 _ (by omega))
    have HC := Lib.hid hc
    have HB := Lib.hid hb
    clear hc hb
    go_wp2_with fail
    go_loopw [3, 4] (RPartRel L (m % 65536) w) (fun s _ _ => 100 - strLen s)
    case atStart =>
      refine ⟨0, m % 65536, _, by omega, by omega, by simp, by go_num, rfl, ?_, ?_, HB.out⟩
      · rw [size_list, HL.out]; simp [HC.out]
      · rw [HL.out]; simp [HC.out]
    case round =>
      obtain ⟨j, r, b, hj, hr, hd, rfl, rfl, hbs, hl, hbel⟩ := hrel
      have hbs1 : b.size ≤ 23 := by omega
      by_cases h0 : 0 < r
      · have HN := Lib.hid (fun c => rpart_next (c := c) hj hr h0 hd hbs hl)
        have HBS := Lib.hid hbs
        have HBel := Lib.hid hbel
        clear hd hbs hl hbel
        go_wp2_with fail
        refine (refDec_at _ (r * 10 / 65536) (by omega) (by omega) _).mono ?_
        rintro e w3 ⟨d, rfl, hd, hb3⟩
        rw [decDigits_small _ (by omega)] at hd
        have hds : d.size ≤ 1 := len_le hd (by simp)
        have HX := Lib.hid (HN.out d hd)
        have HB3 := Lib.hid (bthen HBel.out hb3)
        clear hd hb3
        go_wp2_with fail
        go_roundw
        case rel => exact ⟨j + 1, r * 10 % 65536, _, by have := HX.out.1; omega, by omega, HX.out.2.1, by go_num, rfl, HX.out.2.2.1, HX.out.2.2.2, HB3.out⟩
        case measure =>
          have h1 := HX.out.2.2.1; have h2 := HBS.out
          show 100 - (b ++ d).size < 100 - b.size
          omega
      · have he : b.data.toList = L ++ frd 16 (m % 65536) := by
          obtain rfl : r = 0 := by omega
          rw [← hl, frd_zero, List.append_nil]
        have HE := Lib.hid he
        have HBel := Lib.hid hbel
        clear hd hbs hl he hbel
        go_wp2_with fail
        go_ret
        exact ⟨_, rfl, HE.out, HBel.out⟩
  · have hz : decide (0 < (m : Int) % 65536) = true := by simp; omega
    obtain ⟨L, hLe⟩ : ∃ L : List UInt8, L = (Lib.decDigits (m / 65536) ++ [46]) := ⟨_, rfl⟩
    have e : printU m = L ++ frd 16 (m % 65536) := by rw [hLe]; unfold printU; rw [if_neg h0]; simp
    rw [e]
    have hL : L.length ≤ 7 := by have := decDigits_len 4 (m / 65536) (by omega); rw [hLe]; simp; omega
    have HL := Lib.hid hLe
    clear h0 e hLe
    go_enter Tryd.func36, Tryd.ntmps36
    go_wp2_with fail
    refine (hf.out _).mono ?_; rintro e w' ⟨rfl, rfl⟩
    go_wp2_with fail
    refine (refDec_at _ (m / 65536) (by omega) (by omega) _).mono ?_
    rintro e w' ⟨c, rfl, hc, hb⟩
    have hcs : c.size ≤ 5 := len_le hc (decDigits_len 4 _ (by omega))
    have HC := Lib.hid hc
    have HB := Lib.hid hb
    clear hc hb
    go_wp2_with fail
    go_loopw [3, 4] (RPartRel L (m % 65536) w) (fun s _ _ => 100 - strLen s)
    case atStart =>
      refine ⟨0, m % 65536, _, by omega, by omega, by simp, by go_num, rfl, ?_, ?_, HB.out⟩
      · rw [size_list, HL.out]; simp [HC.out]
      · rw [HL.out]; simp [HC.out]
    case round =>
      obtain ⟨j, r, b, hj, hr, hd, rfl, rfl, hbs, hl, hbel⟩ := hrel
      have hbs1 : b.size ≤ 23 := by omega
      by_cases h0 : 0 < r
      · have HN := Lib.hid (fun c => rpart_next (c := c) hj hr h0 hd hbs hl)
        have HBS := Lib.hid hbs
        have HBel := Lib.hid hbel
        clear hd hbs hl hbel
        go_wp2_with fail
        refine (refDec_at _ (r * 10 / 65536) (by omega) (by omega) _).mono ?_
        rintro e w3 ⟨d, rfl, hd, hb3⟩
        rw [decDigits_small _ (by omega)] at hd
        have hds : d.size ≤ 1 := len_le hd (by simp)
        have HX := Lib.hid (HN.out d hd)
        have HB3 := Lib.hid (bthen HBel.out hb3)
        clear hd hb3
        go_wp2_with fail
        go_roundw
        case rel => exact ⟨j + 1, r * 10 % 65536, _, by have := HX.out.1; omega, by omega, HX.out.2.1, by go_num, rfl, HX.out.2.2.1, HX.out.2.2.2, HB3.out⟩
        case measure =>
          have h1 := HX.out.2.2.1; have h2 := HBS.out
          show 100 - (b ++ d).size < 100 - b.size
          omega
      · have he : b.data.toList = L ++ frd 16 (m % 65536) := by
          obtain rfl : r = 0 := by omega
          rw [← hl, frd_zero, List.append_nil]
        have HE := Lib.hid he
        have HBel := Lib.hid hbel
        clear hd hbs hl he hbel
        go_wp2_with fail
        go_ret
        exact ⟨_, rfl, HE.out, HBel.out⟩
theorem refPrint_neg (m : Nat) (hm1 : 1 ≤ m) (hm : m ≤ 2147483648) (w : World) :
    Calls Tryd.prog 36 #[.int .i64 (-(m : Int))] w (StrB (45 :: printU m) w) := by
  have hf := Lib.hid (fun w => refFits_yes (-(m : Int)) w ((fits_iff _).2 ⟨by omega, by omega⟩))
  have hng : decide (-(m : Int) < 0) = true := by simp; omega
  by_cases h0 : m % 65536 = 0
  · have hz : decide (0 < (m : Int) % 65536) = false := by simp; omega
    obtain ⟨L, hLe⟩ : ∃ L : List UInt8, L = ([45] ++ Lib.decDigits (m / 65536)) := ⟨_, rfl⟩
    have e : 45 :: printU m = L ++ frd 16 (m % 65536) := by rw [hLe]; unfold printU; rw [if_pos h0]; simp; rw [h0, frd_zero]
    rw [e]
    have hL : L.length ≤ 7 := by have := decDigits_len 4 (m / 65536) (by omega); rw [hLe]; simp; omega
    have HL := Lib.hid hLe
    clear h0 e hLe
    go_enter Tryd.func36, Tryd.ntmps36
    go_wp2_with fail
    refine (hf.out _).mono ?_; rintro e w' ⟨rfl, rfl⟩
    go_wp2_with fail
    refine (refDec_at _ (m / 65536) (by omega) (by omega) _).mono ?_
    rintro e w' ⟨c, rfl, hc, hb⟩
    have hcs : c.size ≤ 5 := len_le hc (decDigits_len 4 _ (by omega))
    have HC := Lib.hid hc
    have HB := Lib.hid hb
    clear hc hb
    go_wp2_with fail
    go_loopw [3, 4] (RPartRel L (m % 65536) w) (fun s _ _ => 100 - strLen s)
    case atStart =>
      refine ⟨0, m % 65536, _, by omega, by omega, by simp, by go_num, rfl, ?_, ?_, HB.out⟩
      · rw [size_list, HL.out]; simp [HC.out]
      · rw [HL.out]; simp [HC.out]
    case round =>
      obtain ⟨j, r, b, hj, hr, hd, rfl, rfl, hbs, hl, hbel⟩ := hrel
      have hbs1 : b.size ≤ 23 := by omega
      by_cases h0 : 0 < r
      · have HN := Lib.hid (fun c => rpart_next (c := c) hj hr h0 hd hbs hl)
        have HBS := Lib.hid hbs
        have HBel := Lib.hid hbel
        clear hd hbs hl hbel
        go_wp2_with fail
        refine (refDec_at _ (r * 10 / 65536) (by omega) (by omega) _).mono ?_
        rintro e w3 ⟨d, rfl, hd, hb3⟩
        rw [decDigits_small _ (by omega)] at hd
        have hds : d.size ≤ 1 := len_le hd (by simp)
        have HX := Lib.hid (HN.out d hd)
        have HB3 := Lib.hid (bthen HBel.out hb3)
        clear hd hb3
        go_wp2_with fail
        go_roundw
        case rel => exact ⟨j + 1, r * 10 % 65536, _, by have := HX.out.1; omega, by omega, HX.out.2.1, by go_num, rfl, HX.out.2.2.1, HX.out.2.2.2, HB3.out⟩
        case measure =>
          have h1 := HX.out.2.2.1; have h2 := HBS.out
          show 100 - (b ++ d).size < 100 - b.size
          omega
      · have he : b.data.toList = L ++ frd 16 (m % 65536) := by
          obtain rfl : r = 0 := by omega
          rw [← hl, frd_zero, List.append_nil]
        have HE := Lib.hid he
        have HBel := Lib.hid hbel
        clear hd hbs hl he hbel
        go_wp2_with fail
        go_ret
        exact ⟨_, rfl, HE.out, HBel.out⟩
  · have hz : decide (0 < (m : Int) % 65536) = true := by simp; omega
    obtain ⟨L, hLe⟩ : ∃ L : List UInt8, L = ([45] ++ Lib.decDigits (m / 65536) ++ [46]) := ⟨_, rfl⟩
    have e : 45 :: printU m = L ++ frd 16 (m % 65536) := by rw [hLe]; unfold printU; rw [if_neg h0]; simp
    rw [e]
    have hL : L.length ≤ 7 := by have := decDigits_len 4 (m / 65536) (by omega); rw [hLe]; simp; omega
    have HL := Lib.hid hLe
    clear h0 e hLe
    go_enter Tryd.func36, Tryd.ntmps36
    go_wp2_with fail
    refine (hf.out _).mono ?_; rintro e w' ⟨rfl, rfl⟩
    go_wp2_with fail
    refine (refDec_at _ (m / 65536) (by omega) (by omega) _).mono ?_
    rintro e w' ⟨c, rfl, hc, hb⟩
    have hcs : c.size ≤ 5 := len_le hc (decDigits_len 4 _ (by omega))
    have HC := Lib.hid hc
    have HB := Lib.hid hb
    clear hc hb
    go_wp2_with fail
    go_loopw [3, 4] (RPartRel L (m % 65536) w) (fun s _ _ => 100 - strLen s)
    case atStart =>
      refine ⟨0, m % 65536, _, by omega, by omega, by simp, by go_num, rfl, ?_, ?_, HB.out⟩
      · rw [size_list, HL.out]; simp [HC.out]
      · rw [HL.out]; simp [HC.out]
    case round =>
      obtain ⟨j, r, b, hj, hr, hd, rfl, rfl, hbs, hl, hbel⟩ := hrel
      have hbs1 : b.size ≤ 23 := by omega
      by_cases h0 : 0 < r
      · have HN := Lib.hid (fun c => rpart_next (c := c) hj hr h0 hd hbs hl)
        have HBS := Lib.hid hbs
        have HBel := Lib.hid hbel
        clear hd hbs hl hbel
        go_wp2_with fail
        refine (refDec_at _ (r * 10 / 65536) (by omega) (by omega) _).mono ?_
        rintro e w3 ⟨d, rfl, hd, hb3⟩
        rw [decDigits_small _ (by omega)] at hd
        have hds : d.size ≤ 1 := len_le hd (by simp)
        have HX := Lib.hid (HN.out d hd)
        have HB3 := Lib.hid (bthen HBel.out hb3)
        clear hd hb3
        go_wp2_with fail
        go_roundw
        case rel => exact ⟨j + 1, r * 10 % 65536, _, by have := HX.out.1; omega, by omega, HX.out.2.1, by go_num, rfl, HX.out.2.2.1, HX.out.2.2.2, HB3.out⟩
        case measure =>
          have h1 := HX.out.2.2.1; have h2 := HBS.out
          show 100 - (b ++ d).size < 100 - b.size
          omega
      · have he : b.data.toList = L ++ frd 16 (m % 65536) := by
          obtain rfl : r = 0 := by omega
          rw [← hl, frd_zero, List.append_nil]
        have HE := Lib.hid he
        have HBel := Lib.hid hbel
        clear hd hbs hl he hbel
        go_wp2_with fail
        go_ret
        exact ⟨_, rfl, HE.out, HBel.out⟩
theorem refPrint_no (n : Int) (hn : fits n = false) (w : World) : Calls Tryd.prog 36 #[.int .i64 n] w (StrB [48] w) := by
  have hf := Lib.hid (fun w => refFits_no n w hn)
  clear hn
  go_enter Tryd.func36, Tryd.ntmps36
  go_wp2_with fail
  refine (hf.out _).mono ?_; rintro e w' ⟨rfl, rfl⟩
  go_wp2_with fail
  go_ret
  exact ⟨_, rfl, rfl, Below.refl _ _⟩
theorem refPrint_any (n : Int) (w : World) : Calls Tryd.prog 36 #[.int .i64 n] w (StrB (printL n) w) := by
  unfold printL
  cases hf : fits n
  · rw [if_neg (by simp)]; exact refPrint_no n hf w
  · rw [if_pos rfl]
    obtain ⟨h1, h2⟩ := (fits_iff n).1 hf
    by_cases h0 : n < 0
    · rw [if_pos h0]
      obtain ⟨m, rfl⟩ : ∃ m : Nat, n = -(m : Int) := ⟨n.natAbs, by omega⟩
      rw [Int.natAbs_neg, Int.natAbs_natCast]
      exact refPrint_neg m (by omega) (by omega) w
    · rw [if_neg h0]
      obtain ⟨m, rfl⟩ : ∃ m : Nat, n = (m : Int) := ⟨n.toNat, by omega⟩
      rw [Int.toNat_natCast]
      exact refPrint_pos m (by omega) w
theorem realL_no {n : Int} (hf : fits n = false) : realL n = printL 0 ++ [46, 48] := by
  have e0 : printL 0 = [48] := by decide +kernel
  have e1 : printL n = [48] := by unfold printL; rw [hf]; rfl
  unfold realL; rw [hf, e0, e1]; rfl
theorem realL_yes {n : Int} (hf : fits n = true) : realL n = if n % 65536 = 0 then printL n ++ [46, 48] else printL n := by
  unfold realL; rw [hf]; rfl
theorem refReal_any (n : Int) (w : World) : Calls Tryd.prog 22 #[.int .i64 n] w (StrB (realL n) w) := by
  cases hf : fits n
  · rw [realL_no hf]
    have hh := Lib.hid (fun w => refFits_no n w hf)
    clear hf
    go_enter Tryd.func22, Tryd.ntmps22
    go_wp2_with fail
    refine (hh.out _).mono ?_; rintro e w' ⟨rfl, rfl⟩
    go_wp2_with fail
    refine (refPrint_any 0 _).mono ?_
    rintro e w' ⟨c, rfl, hc, hb⟩
    have hcs : c.size ≤ 23 := len_le hc (printL_len _)
    have HC := Lib.hid hc
    have HB := Lib.hid hb
    clear hc hb
    go_wp2_with fail
    go_ret
    exact ⟨_, rfl, by simp [HC.out], HB.out⟩
  · rw [realL_yes hf]
    have hh := Lib.hid (fun w => refFits_yes n w hf)
    obtain ⟨h1, h2⟩ := (fits_iff n).1 hf
    clear hf
    by_cases h0 : n % 65536 = 0
    · rw [if_pos h0]
      have hz : (n.tmod 65536 == 0) = true := by
        have := Int.emod_emod_of_dvd n (show (65536 : Int) ∣ 65536 from ⟨1, rfl⟩)
        have h3 : (65536 : Int) ∣ n := Int.dvd_of_emod_eq_zero h0
        have h4 := (Int.dvd_iff_tmod_eq_zero).1 h3
        simp [h4]
      have hz2 : 0 ≤ n → (n % 65536 == 0) = true := fun _ => by simp [h0]
      have HZ2 := Lib.hid hz2
      clear h0 hz2
      by_cases hn : 0 ≤ n
      · have hz3 := HZ2.out hn
        go_enter Tryd.func22, Tryd.ntmps22
        go_wp2_with fail
        refine (hh.out _).mono ?_; rintro e w' ⟨rfl, rfl⟩
        go_wp2_with fail
        refine (refPrint_any n _).mono ?_
        rintro e w' ⟨c, rfl, hc, hb⟩
        have hcs : c.size ≤ 23 := len_le hc (printL_len _)
        have HC := Lib.hid hc
        have HB := Lib.hid hb
        clear hc hb
        go_wp2_with fail
        go_ret
        exact ⟨_, rfl, by simp [HC.out], HB.out⟩
      · go_enter Tryd.func22, Tryd.ntmps22
        go_wp2_with fail
        refine (hh.out _).mono ?_; rintro e w' ⟨rfl, rfl⟩
        go_wp2_with fail
        refine (refPrint_any n _).mono ?_
        rintro e w' ⟨c, rfl, hc, hb⟩
        have hcs : c.size ≤ 23 := len_le hc (printL_len _)
        have HC := Lib.hid hc
        have HB := Lib.hid hb
        clear hc hb
        go_wp2_with fail
        go_ret
        exact ⟨_, rfl, by simp [HC.out], HB.out⟩
    · rw [if_neg h0]
      have hz : (n.tmod 65536 == 0) = false := by
        simp only [beq_eq_false_iff_ne]
        intro h4
        exact h0 (Int.emod_eq_zero_of_dvd ((Int.dvd_iff_tmod_eq_zero).2 h4))
      have hz2 : (n % 65536 == 0) = false := by simp [h0]
      clear h0
      by_cases hn : 0 ≤ n
      all_goals
        go_enter Tryd.func22, Tryd.ntmps22
        go_wp2_with fail
        refine (hh.out _).mono ?_; rintro e w' ⟨rfl, rfl⟩
        go_wp2_with fail
        refine (refPrint_any n _).mono ?_
        rintro e w' ⟨c, rfl, hc, hb⟩
        have HC := Lib.hid hc
        have HB := Lib.hid hb
        clear hc hb
        go_wp2_with fail
        go_ret
        exact ⟨_, rfl, HC.out, HB.out⟩
end Go.Proofs.YtigjkkmnellanaaDoor
