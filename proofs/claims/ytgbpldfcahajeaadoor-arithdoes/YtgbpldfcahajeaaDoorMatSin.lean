/-
  Sines: the table of the document, and the contracts of sine (mat), sine and Sine (ref01).
-/
import Derived.Test.YtgbpldfcahajeaaDoorMatLeadsW
import Derived.Lib.LaidTab
import Derived.Deep.DeepCutAuto
namespace Go.Proofs.YtgbpldfcahajeaaDoor
open Go.RowKit
open Fx
namespace Fx
def sinTab : List Int := [0, 1144, 2287, 3430, 4572, 5712, 6850, 7987, 9121, 10252, 11380, 12505, 13626, 14742, 15855, 16962, 18064, 19161, 20252, 21336, 22415, 23486, 24550, 25607, 26656, 27697, 28729, 29753, 30767, 31772, 32768, 33754, 34729, 35693, 36647, 37590, 38521, 39441, 40348, 41243, 42126, 42995, 43852, 44695, 45525, 46341, 47143, 47930, 48703, 49461, 50203, 50931, 51643, 52339, 53020, 53684, 54332, 54963, 55578, 56175, 56756, 57319, 57865, 58393, 58903, 59396, 59870, 60326, 60764, 61183, 61584, 61966, 62328, 62672, 62997, 63303, 63589, 63856, 64104, 64332, 64540, 64729, 64898, 65048, 65177, 65287, 65376, 65446, 65496, 65526, 65536]
def tblL : List UInt8 := [48, 32, 49, 49, 52, 52, 32, 50, 50, 56, 55, 32, 51, 52, 51, 48, 32, 52, 53, 55, 50, 32, 53, 55, 49, 50, 32, 54, 56, 53, 48, 32, 55, 57, 56, 55, 32, 57, 49, 50, 49, 32, 49, 48, 50, 53, 50, 32, 49, 49, 51, 56, 48, 32, 49, 50, 53, 48, 53, 32, 49, 51, 54, 50, 54, 32, 49, 52, 55, 52, 50, 32, 49, 53, 56, 53, 53, 32, 49, 54, 57, 54, 50, 32, 49, 56, 48, 54, 52, 32, 49, 57, 49, 54, 49, 32, 50, 48, 50, 53, 50, 32, 50, 49, 51, 51, 54, 32, 50, 50, 52, 49, 53, 32, 50, 51, 52, 56, 54, 32, 50, 52, 53, 53, 48, 32, 50, 53, 54, 48, 55, 32, 50, 54, 54, 53, 54, 32, 50, 55, 54, 57, 55, 32, 50, 56, 55, 50, 57, 32, 50, 57, 55, 53, 51, 32, 51, 48, 55, 54, 55, 32, 51, 49, 55, 55, 50, 32, 51, 50, 55, 54, 56, 32, 51, 51, 55, 53, 52, 32, 51, 52, 55, 50, 57, 32, 51, 53, 54, 57, 51, 32, 51, 54, 54, 52, 55, 32, 51, 55, 53, 57, 48, 32, 51, 56, 53, 50, 49, 32, 51, 57, 52, 52, 49, 32, 52, 48, 51, 52, 56, 32, 52, 49, 50, 52, 51, 32, 52, 50, 49, 50, 54, 32, 52, 50, 57, 57, 53, 32, 52, 51, 56, 53, 50, 32, 52, 52, 54, 57, 53, 32, 52, 53, 53, 50, 53, 32, 52, 54, 51, 52, 49, 32, 52, 55, 49, 52, 51, 32, 52, 55, 57, 51, 48, 32, 52, 56, 55, 48, 51, 32, 52, 57, 52, 54, 49, 32, 53, 48, 50, 48, 51, 32, 53, 48, 57, 51, 49, 32, 53, 49, 54, 52, 51, 32, 53, 50, 51, 51, 57, 32, 53, 51, 48, 50, 48, 32, 53, 51, 54, 56, 52, 32, 53, 52, 51, 51, 50, 32, 53, 52, 57, 54, 51, 32, 53, 53, 53, 55, 56, 32, 53, 54, 49, 55, 53, 32, 53, 54, 55, 53, 54, 32, 53, 55, 51, 49, 57, 32, 53, 55, 56, 54, 53, 32, 53, 56, 51, 57, 51, 32, 53, 56, 57, 48, 51, 32, 53, 57, 51, 57, 54, 32, 53, 57, 56, 55, 48, 32, 54, 48, 51, 50, 54, 32, 54, 48, 55, 54, 52, 32, 54, 49, 49, 56, 51, 32, 54, 49, 53, 56, 52, 32, 54, 49, 57, 54, 54, 32, 54, 50, 51, 50, 56, 32, 54, 50, 54, 55, 50, 32, 54, 50, 57, 57, 55, 32, 54, 51, 51, 48, 51, 32, 54, 51, 53, 56, 57, 32, 54, 51, 56, 53, 54, 32, 54, 52, 49, 48, 52, 32, 54, 52, 51, 51, 50, 32, 54, 52, 53, 52, 48, 32, 54, 52, 55, 50, 57, 32, 54, 52, 56, 57, 56, 32, 54, 53, 48, 52, 56, 32, 54, 53, 49, 55, 55, 32, 54, 53, 50, 56, 55, 32, 54, 53, 51, 55, 54, 32, 54, 53, 52, 52, 54, 32, 54, 53, 52, 57, 54, 32, 54, 53, 53, 50, 54, 32, 54, 53, 53, 51, 54]
/-- the text of the table is the table -/
def chk : List UInt8 → Nat → Nat → Bool
  | [], s, n => s == 90 && n == 65536
  | c :: r, s, n => decide (n ≤ 65536) && decide (s ≤ 90) && (if c = 32 then (sinTab.getD s 0 == (n : Int)) && chk r (s + 1) 0 else decide (48 ≤ c.toNat) && decide (c.toNat ≤ 57) && chk r s (n * 10 + (c.toNat - 48)))
theorem chk_all : chk tblL 0 0 = true := by decide +kernel
theorem chk_cons {c : UInt8} {r : List UInt8} {s n : Nat} (h : chk (c :: r) s n = true) : n ≤ 65536 ∧ s ≤ 90 ∧ ((c = 32 ∧ sinTab.getD s 0 = (n : Int) ∧ chk r (s + 1) 0 = true) ∨ (c ≠ 32 ∧ 48 ≤ c.toNat ∧ c.toNat ≤ 57 ∧ chk r s (n * 10 + (c.toNat - 48)) = true)) := by
  unfold chk at h
  by_cases hc : c = 32
  · rw [if_pos hc] at h
    simp at h
    exact ⟨h.1.1, h.1.2, Or.inl ⟨hc, by simpa using h.2.1, h.2.2⟩⟩
  · rw [if_neg hc] at h
    simp at h
    exact ⟨h.1.1, h.1.2, Or.inr ⟨hc, h.2.1.1, h.2.1.2, h.2.2⟩⟩
theorem chk_nil {s n : Nat} (h : chk [] s n = true) : s = 90 ∧ n = 65536 := by unfold chk at h; simpa using h
/-- the sine of 0 to 180 degrees -/
def sin0 (r : Nat) : Int := if r > 90 then sinTab.getD (180 - r) 0 else sinTab.getD r 0
/-- the sine of 0 to 359 degrees -/
def sinF (r : Nat) : Int := if r > 180 then -(sin0 (r - 180)) else sin0 r
/-- the sine of whole degrees -/
def sinZ (z : Int) : Int := sinF (z % 360).toNat
theorem sinF_ok : ∀ r, r < 360 → sinF ((r + 180) % 360) = -(sinF r) ∧ -65536 ≤ sinF r ∧ sinF r ≤ 65536 := by decide +kernel
theorem sin0_ok : ∀ r, r < 181 → -65536 ≤ sin0 r ∧ sin0 r ≤ 65536 := by decide +kernel
theorem sinZ_bd (z : Int) : -65536 ≤ sinZ z ∧ sinZ z ≤ 65536 := (sinF_ok _ (by omega)).2
theorem sinZ_half (z : Int) : sinZ (z + 180) = -(sinZ z) := by
  unfold sinZ
  rw [← (sinF_ok (z % 360).toNat (by omega)).1]
  congr 1
  omega
theorem sinZ_turn (z t : Int) : sinZ (z + 360 * t) = sinZ z := by
  unfold sinZ
  rw [Int.add_mul_emod_self_left]
end Fx
def SinT (w : World) : Prop := Lib.TabIs Tryd.prog w "mezzotint/mat.sines" .i64 sinTab
theorem sin_glob : Tryd.prog.globalNamed "mezzotint/mat.sines" = some 0 := by kernel_rfl
theorem SinT.below {w w' : World} (h : SinT w) (hb : Below w.heap.size w w') : SinT w' := by
  unfold SinT Lib.TabIs at *
  rw [← h]
  simp only [World.var?, sin_glob, Option.bind] at h ⊢
  have hlt : 0 < w.heap.size := by
    rcases Nat.lt_or_ge 0 w.heap.size with h1 | h1
    · exact h1
    · rw [Array.getElem?_eq_none h1] at h; cases h
  rw [hb.block _ hlt]
theorem SinT.cell {w : World} (h : SinT w) (i : Nat) (hi : i < 91) : w.cell? ⟨0, i, none⟩ = some (.int .i64 (sinTab.getD i 0)) := Lib.TabIs.cell h sin_glob i hi
set_option maxRecDepth 100000 in
theorem matSine_low (d : Nat) (hd : d < 180) (w : World) (ht : SinT w) : Calls Tryd.prog 102 #[.int .i64 d] w fun e w' => e = .returned (.int .i64 (sin0 d)) ∧ w = w' := by
  have e1 : (d : Int) % 360 = (d : Int) := by omega
  by_cases h : d > 90
  · have hc := ht.cell (180 - d) (by omega)
    have hv : sin0 d = sinTab.getD (180 - d) 0 := by unfold sin0; rw [if_pos h]
    rw [hv]
    generalize sinTab.getD (180 - d) 0 = v at hc ⊢
    clear hv ht
    go_enter Tryd.func102, Tryd.ntmps102
    go_wp2_with fail
    go_ret
    exact ⟨rfl, rfl⟩
  · have hc := ht.cell d (by omega)
    have hv : sin0 d = sinTab.getD d 0 := by unfold sin0; rw [if_neg h]
    rw [hv]
    generalize sinTab.getD d 0 = v at hc ⊢
    clear hv ht
    go_enter Tryd.func102, Tryd.ntmps102
    go_wp2_with fail
    go_ret
    exact ⟨rfl, rfl⟩
set_option maxRecDepth 100000 in
theorem matSine_at (d : Nat) (hd : d < 1000) (w : World) (ht : SinT w) : Calls Tryd.prog 102 #[.int .i64 d] w fun e w' => e = .returned (.int .i64 (sinZ d)) ∧ w = w' := by
  obtain ⟨r, hr⟩ : ∃ r : Nat, d % 360 = r := ⟨_, rfl⟩
  have hz : sinZ (d : Int) = sinF r := by unfold sinZ; congr 1 <;> omega
  rw [hz]
  by_cases h : r ≥ 180
  · have hF : sinF r = -(sin0 (r - 180)) := by
      unfold sinF
      by_cases h2 : r > 180
      · rw [if_pos h2]
      · rw [if_neg h2]
        obtain rfl : r = 180 := by omega
        decide
    have hL := fun w ht => matSine_low (r - 180) (by omega) w ht
    obtain ⟨b1, b2⟩ := sin0_ok (r - 180) (by omega)
    rw [hF]
    generalize sin0 (r - 180) = v at hL b1 b2 ⊢
    obtain ⟨k, hk⟩ : ∃ k : Nat, r = k + 180 := ⟨r - 180, by omega⟩
    subst hk
    rw [Nat.add_sub_cancel] at hL
    have HL := Lib.hid hL
    have HT := Lib.hid ht
    have e1 : (d : Int) % 360 = (k : Int) + 180 := by omega
    have hk2 : k < 180 := by omega
    clear hL ht hF hz hr h
    go_enter Tryd.func102, Tryd.ntmps102
    go_wp2_with fail
    refine (HL.out _ HT.out).mono ?_; rintro e w' ⟨rfl, rfl⟩
    go_wp2_with fail
    go_ret
    exact ⟨rfl, rfl⟩
  · have hF : sinF r = sin0 r := by unfold sinF; rw [if_neg (by omega)]
    rw [hF]
    have e1 : (d : Int) % 360 = (r : Int) := by omega
    by_cases h9 : r > 90
    · have hc := ht.cell (180 - r) (by omega)
      have hv : sin0 r = sinTab.getD (180 - r) 0 := by unfold sin0; rw [if_pos h9]
      rw [hv]
      have hr1 : r < 180 := by omega
      generalize sinTab.getD (180 - r) 0 = v at hc ⊢
      clear hv ht h hF hz hr
      go_enter Tryd.func102, Tryd.ntmps102
      go_wp2_with fail
      go_ret
      exact ⟨rfl, rfl⟩
    · have hc := ht.cell r (by omega)
      have hv : sin0 r = sinTab.getD r 0 := by unfold sin0; rw [if_neg h9]
      rw [hv]
      have hr1 : r ≤ 90 := by omega
      generalize sinTab.getD r 0 = v at hc ⊢
      clear hv ht h h9 hF hz hr
      go_enter Tryd.func102, Tryd.ntmps102
      go_wp2_with fail
      go_ret
      exact ⟨rfl, rfl⟩
theorem drop_bytes (s : ByteArray) (l : List UInt8) (h : s.data.toList = l) (k : Nat) (hk : k < s.size) : l.drop k = s[k] :: l.drop (k + 1) := by
  subst h; exact List.drop_eq_getElem_cons (by simpa using hk)
def TblRel (L : List UInt8) (d : Nat) (t0 t4 i : Value) : Prop := ∃ k s n : Nat, k ≤ L.length ∧ s ≤ d ∧ t0 = .int .i64 ((d : Int) - (s : Int)) ∧ t4 = .int .i64 (n : Int) ∧ i = .int .i64 (k : Int) ∧ chk (L.drop k) s n = true
set_option maxRecDepth 100000 in
theorem refsine_at (d : Nat) (hd : d ≤ 90) (w : World) : Calls Tryd.prog 104 #[.int .i64 d] w fun e w' => e = .returned (.int .i64 (sinTab.getD d 0)) ∧ w = w' := by
  obtain ⟨s, hs⟩ : ∃ s : ByteArray, s = ⟨tblL.toArray⟩ := ⟨_, rfl⟩
  have hsz : s.size = 533 := by rw [hs]; decide +kernel
  have hL : s.data.toList = tblL := by rw [hs]
  obtain ⟨R, hR⟩ : ∃ R, sinTab.getD d 0 = R := ⟨_, rfl⟩
  rw [hR]
  have HLEN : Hid (tblL.length = s.size) := by show tblL.length = s.size; rw [← hL]; simp
  have HS := Lib.hid hs
  have HL := Lib.hid hL
  have HR := Lib.hid hR
  clear hs hL hR
  go_enter Tryd.func104, Tryd.ntmps104
  go_upto_region 1 with fail
  go_cut [3] (fun s3 wx => s3 = .string s ∧ wx = w)
  case first =>
    go_wp2_with fail
    go_meet
    exact ⟨by rw [HS.out]; rfl, rfl⟩
  case rest =>
  obtain ⟨rfl, rfl⟩ := hcut
  go_wp2_with fail
  go_loop [0, 4, 5] (TblRel tblL d) (fun _ _ i => 533 - (intOf i).toNat)
  case atStart => exact ⟨0, 0, 0, by simp, by omega, by simp, rfl, rfl, chk_all⟩
  case round =>
    obtain ⟨k, q, n, hk, hq, rfl, rfl, rfl, hchk⟩ := hrel
    by_cases hlt : k < s.size
    · have hdrop : tblL.drop k = s[k] :: tblL.drop (k + 1) := drop_bytes s tblL HL.out k hlt
      rw [hdrop] at hchk
      obtain ⟨hn, hq9, hcase⟩ := chk_cons hchk
      clear hchk hdrop
      rcases hcase with ⟨hc, hv, hnext⟩ | ⟨hc, hc1, hc2, hnext⟩
      · have hb : (s[k].toNat : Int) = 32 := by rw [hc]; rfl
        have HV := Lib.hid hv
        have HX := Lib.hid hnext
        clear hc hv hnext
        by_cases he : q = d
        · subst he
          have hz : ((q : Int) - (q : Int)) = 0 := by omega
          rw [hz]
          go_wp2_with fail
          go_ret
          exact ⟨ret_int (by rw [← HR.out, HV.out]), rfl⟩
        · have hz : (((d : Int) - (q : Int)) == 0) = false := by simp; omega
          go_wp2_with fail
          go_round
          case rel => exact ⟨k + 1, q + 1, 0, by have := HLEN.out; omega, by omega, by go_num, rfl, by go_num, HX.out⟩
          case measure => simp [intOf]; omega
      · have HX := Lib.hid hnext
        clear hnext
        have hb : ((s[k].toNat : Int) == 32) = false := by
          have : s[k].toNat ≠ 32 := fun e => hc (UInt8.toNat_inj.1 (by rw [e]; rfl))
          simp; omega
        clear hc
        go_wp2_with fail
        go_round
        case rel => exact ⟨k + 1, q, n * 10 + (s[k].toNat - 48), by have := HLEN.out; omega, hq, rfl, by go_num, by go_num, HX.out⟩
        case measure => simp [intOf]; omega
    · have hend : tblL.drop k = [] := by
        apply List.drop_of_length_le
        have : s.data.toList.length = s.size := by simp
        rw [HL.out] at this
        omega
      rw [hend] at hchk
      obtain ⟨rfl, rfl⟩ := chk_nil hchk
      obtain rfl : d = 90 := by omega
      clear hchk hend
      go_wp2_with fail
      go_ret
      exact ⟨ret_int (by rw [← HR.out]; decide), rfl⟩
set_option maxRecDepth 100000 in
theorem refSine_low (r : Nat) (hr : r ≤ 180) (w : World) : Calls Tryd.prog 100 #[.int .i64 r] w fun e w' => e = .returned (.int .i64 (sin0 r)) ∧ w = w' := by
  have e1 : (r : Int) % 360 = (r : Int) := by omega
  by_cases h : r > 90
  · have hv : sin0 r = sinTab.getD (180 - r) 0 := by unfold sin0; rw [if_pos h]
    have hL := fun w => refsine_at (180 - r) (by omega) w
    rw [hv]
    generalize sinTab.getD (180 - r) 0 = v at hL ⊢
    have e2 : ((180 - r : Nat) : Int) = 180 - (r : Int) := by omega
    rw [e2] at hL
    have HL := Lib.hid hL
    clear hL hv e2
    go_enter Tryd.func100, Tryd.ntmps100
    go_wp2_with fail
    refine (HL.out _).mono ?_; rintro e w' ⟨rfl, rfl⟩
    go_wp2_with fail
    go_ret
    exact ⟨rfl, rfl⟩
  · have hv : sin0 r = sinTab.getD r 0 := by unfold sin0; rw [if_neg h]
    have hL := fun w => refsine_at r (by omega) w
    rw [hv]
    generalize sinTab.getD r 0 = v at hL ⊢
    have HL := Lib.hid hL
    clear hL hv
    go_enter Tryd.func100, Tryd.ntmps100
    go_wp2_with fail
    refine (HL.out _).mono ?_; rintro e w' ⟨rfl, rfl⟩
    go_wp2_with fail
    go_ret
    exact ⟨rfl, rfl⟩
/-- what Sine does with a rest from 0 to 359, however it has come -/
def SineR (z : Int) : Prop := ∀ w, Calls Tryd.prog 100 #[.int .i64 z] w fun e w' => e = .returned (.int .i64 (sinZ z)) ∧ w = w'
set_option maxRecDepth 100000 in
theorem refSine_at (z : Int) (h1 : -100000 ≤ z) (h2 : z ≤ 100000) : SineR z := by
  intro w
  obtain ⟨r, hr⟩ : ∃ r : Nat, (z % 360).toNat = r := ⟨_, rfl⟩
  have hz : sinZ z = sinF r := by unfold sinZ; rw [hr]
  have hr3 : r < 360 := by omega
  have hzr : z % 360 = (r : Int) := by omega
  rw [hz]
  have ht : (z.tmod 360 = (r : Int) ∧ 0 ≤ z.tmod 360) ∨ (z.tmod 360 + 360 = (r : Int) ∧ z.tmod 360 < 0) := by
    rcases Int.lt_or_le z 0 with hn | hn
    · have := Int.tmod_eq_emod_of_nonneg (a := -z) (b := 360) (by omega)
      rw [Int.neg_tmod] at this
      by_cases h0 : (-z) % 360 = 0
      · left; omega
      · right; omega
    · have := Int.tmod_eq_emod_of_nonneg (a := z) (b := 360) hn
      left; omega
  obtain ⟨m, hm⟩ : ∃ m, z.tmod 360 = m := ⟨_, rfl⟩
  rw [hm] at ht
  have hm' : 0 ≤ z → z % 360 = m := fun h => by rw [← hm]; exact (Int.tmod_eq_emod_of_nonneg h).symm
  clear hr hz hzr
  by_cases h180 : r > 180
  · have hF : sinF r = -(sin0 (r - 180)) := by unfold sinF; rw [if_pos h180]
    obtain ⟨b1, b2⟩ := sin0_ok (r - 180) (by omega)
    have hL := fun w => refSine_low (r - 180) (by omega) w
    rw [hF]
    generalize sin0 (r - 180) = v at hL b1 b2 ⊢
    have e2 : ((r - 180 : Nat) : Int) = (r : Int) - 180 := by omega
    rw [e2] at hL
    have HL := Lib.hid hL
    clear hL hF e2
    rcases ht with ⟨rfl, hneg⟩ | ⟨h360, hneg⟩
    · by_cases hz0 : 0 ≤ z
      · have hmm := hm' hz0
        clear hm'
        go_enter Tryd.func100, Tryd.ntmps100
        go_wp2_with fail
        refine (HL.out _).mono ?_; rintro e w' ⟨rfl, rfl⟩
        go_wp2_with fail
        go_ret
        exact ⟨rfl, rfl⟩
      · clear hm'
        go_enter Tryd.func100, Tryd.ntmps100
        go_wp2_with fail
        refine (HL.out _).mono ?_; rintro e w' ⟨rfl, rfl⟩
        go_wp2_with fail
        go_ret
        exact ⟨rfl, rfl⟩
    · have hz0 : ¬ 0 ≤ z := fun h => by have := hm' h; omega
      clear hm'
      go_enter Tryd.func100, Tryd.ntmps100
      go_wp2_with fail
      refine (HL.out _).mono ?_; rintro e w' ⟨rfl, rfl⟩
      go_wp2_with fail
      go_ret
      exact ⟨rfl, rfl⟩
  · have hF : sinF r = sin0 r := by unfold sinF; rw [if_neg h180]
    rw [hF]
    by_cases h9 : r > 90
    · have hv : sin0 r = sinTab.getD (180 - r) 0 := by unfold sin0; rw [if_pos h9]
      have hL := fun w => refsine_at (180 - r) (by omega) w
      rw [hv]
      generalize sinTab.getD (180 - r) 0 = v at hL ⊢
      have e2 : ((180 - r : Nat) : Int) = 180 - (r : Int) := by omega
      rw [e2] at hL
      have HL := Lib.hid hL
      clear hL hF e2 hv
      rcases ht with ⟨rfl, hneg⟩ | ⟨h360, hneg⟩
      · by_cases hz0 : 0 ≤ z
        · have hmm := hm' hz0
          clear hm'
          go_enter Tryd.func100, Tryd.ntmps100
          go_wp2_with fail
          refine (HL.out _).mono ?_; rintro e w' ⟨rfl, rfl⟩
          go_wp2_with fail
          go_ret
          exact ⟨rfl, rfl⟩
        · clear hm'
          go_enter Tryd.func100, Tryd.ntmps100
          go_wp2_with fail
          refine (HL.out _).mono ?_; rintro e w' ⟨rfl, rfl⟩
          go_wp2_with fail
          go_ret
          exact ⟨rfl, rfl⟩
      · have hz0 : ¬ 0 ≤ z := fun h => by have := hm' h; omega
        clear hm'
        go_enter Tryd.func100, Tryd.ntmps100
        go_wp2_with fail
        refine (HL.out _).mono ?_; rintro e w' ⟨rfl, rfl⟩
        go_wp2_with fail
        go_ret
        exact ⟨rfl, rfl⟩
    · have hv : sin0 r = sinTab.getD r 0 := by unfold sin0; rw [if_neg h9]
      have hL := fun w => refsine_at r (by omega) w
      rw [hv]
      generalize sinTab.getD r 0 = v at hL ⊢
      have HL := Lib.hid hL
      clear hL hF hv
      rcases ht with ⟨rfl, hneg⟩ | ⟨h360, hneg⟩
      · by_cases hz0 : 0 ≤ z
        · have hmm := hm' hz0
          clear hm'
          go_enter Tryd.func100, Tryd.ntmps100
          go_wp2_with fail
          refine (HL.out _).mono ?_; rintro e w' ⟨rfl, rfl⟩
          go_wp2_with fail
          go_ret
          exact ⟨rfl, rfl⟩
        · clear hm'
          go_enter Tryd.func100, Tryd.ntmps100
          go_wp2_with fail
          refine (HL.out _).mono ?_; rintro e w' ⟨rfl, rfl⟩
          go_wp2_with fail
          go_ret
          exact ⟨rfl, rfl⟩
      · have hz0 : ¬ 0 ≤ z := fun h => by have := hm' h; omega
        clear hm'
        go_enter Tryd.func100, Tryd.ntmps100
        go_wp2_with fail
        refine (HL.out _).mono ?_; rintro e w' ⟨rfl, rfl⟩
        go_wp2_with fail
        go_ret
        exact ⟨rfl, rfl⟩
end Go.Proofs.YtgbpldfcahajeaaDoor
