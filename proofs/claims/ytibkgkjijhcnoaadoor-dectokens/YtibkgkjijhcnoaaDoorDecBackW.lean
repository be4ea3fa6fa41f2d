/-
  The walk of the law DecBack: a number's text is read as it.
-/
import Derived.Test.YtibkgkjijhcnoaaDoorDecVal
import Derived.Test.YtibkgkjijhcnoaaDoorDecRefPrint
import Derived.OpenShut
namespace Go.Proofs.YtibkgkjijhcnoaaDoor
open Go.RowKit
open Fx Dc
namespace Dc
theorem rdD_none {base : Int} : ∀ {l : List UInt8} {n : Int} {c : UInt8}, c ∈ l → ¬ digU (c.toNat : Int) < base → rdD base l n = none
  | [], _, _, h, _ => by cases h
  | x :: t, n, c, h, hc => by
    rw [rdD_cons]
    split
    · rename_i hx
      rcases List.mem_cons.1 h with rfl | h
      · exact absurd hx hc
      · exact rdD_none h hc
    · rfl
theorem no_any {l : List UInt8} (h : ∀ x ∈ l, x ≠ 101 ∧ x ≠ 69) : pwAt l = -1 := by
  unfold pwAt
  apply Lib.indexAny_none
  intro j b _ hb
  obtain ⟨h1, h2⟩ := h b (List.mem_of_getElem? hb)
  simp [h1, h2]
theorem no_hash {l : List UInt8} (h : ∀ x ∈ l, x ≠ 35) : (Lib.cut l [35]).2.2 = false := by
  have h1 : Lib.index l [35] = -1 := by rw [Lib.index_one, indexByte_neg h]
  unfold Lib.cut; rw [h1]; rfl
/-- a text that is a real without a power -/
theorem tok_real {l r : List UInt8} {b : Bool} {v : Int} (h64 : l.length ≤ 64) (h35 : ∀ x ∈ l, x ≠ 35) (hL : csL l = r) (hB : csB l = b) (h46 : (46 : UInt8) ∈ r) (hE : ∀ x ∈ r, x ≠ 101 ∧ x ≠ 69)
    (hok : manOk r = true) (hv : sgn b (manN r 0) = v) (hf : fits v = true) : tokR l = (2, v, true, 0) := by
  have hw : whoO l = none := by
    have : rdD 10 r 0 = none := rdD_none h46 (by decide)
    have h2 : rdOk 10 r = false := by unfold rdOk; rw [this]; rfl
    unfold whoO; rw [hL, h2]; rfl
  have hp := no_any hE
  have hpo : pwOk r = true := by unfold pwOk; rw [hp]; rfl
  have hpn : pwN r = 0 := by unfold pwN; rw [hp]; rfl
  have hpm : pwM r = r := by unfold pwM; rw [hp]; rfl
  have hro : reaOk l = true := by unfold reaOk; rw [hL, hpo, hpm, hok]; rfl
  have hrn : reaN l = v := by unfold reaN; rw [hL, hB, hpm, hpn]; exact hv
  unfold tokR
  rw [if_neg (by omega), no_hash h35, if_neg (by simp), hw]
  simp only [Option.isSome_none, Bool.false_eq_true, if_false]
  unfold reaK reaV reaE
  rw [hro, hrn, hf]; rfl
theorem txt_chars (za zb m : Nat) : ∀ x ∈ txt za zb m, isDig x ∨ x = 46 := by
  intro x hx
  unfold txt at hx
  rcases List.mem_append.1 hx with h | h
  · left; exact allDig_app (zeros_dig za) (decDigits_dig _) x h
  · rcases List.mem_cons.1 h with h | h
    · right; exact h
    · left; exact allDig_app (tailU_dig m) (zeros_dig zb) x h
theorem dig_ne {x c : UInt8} (h : isDig x) (hc : ¬ isDig c) : x ≠ c := by rintro rfl; exact hc h
theorem txt_46 (za zb m : Nat) : (46 : UInt8) ∈ txt za zb m := by unfold txt; simp
theorem txt_no35 (za zb m : Nat) : ∀ x ∈ txt za zb m, x ≠ 35 := by
  intro x hx
  rcases txt_chars za zb m x hx with h | h
  · exact dig_ne h (by unfold isDig; decide)
  · rw [h]; decide
theorem txt_noE (za zb m : Nat) : ∀ x ∈ txt za zb m, x ≠ 101 ∧ x ≠ 69 := by
  intro x hx
  rcases txt_chars za zb m x hx with h | h
  · exact ⟨dig_ne h (by unfold isDig; decide), dig_ne h (by unfold isDig; decide)⟩
  · rw [h]; decide
theorem tok_pos (m : Nat) (hm : m ≤ 2147483647) : tokR (txt 0 0 m) = (2, (m : Int), true, 0) := by
  obtain ⟨h1, h2⟩ := cs_txt 0 0 m
  exact tok_real (by have := txt_len 0 0 m (by omega); omega) (txt_no35 _ _ _) h2 h1 (txt_46 _ _ _) (txt_noE _ _ _) (manOk_txt _ _ _) (by unfold sgn; rw [if_neg (by simp), manN_txt _ _ _ (by omega)]) ((fits_iff _).2 ⟨by omega, by omega⟩)
theorem tok_neg (m : Nat) (hm : m ≤ 2147483648) : tokR (45 :: txt 0 0 m) = (2, -(m : Int), true, 0) := by
  obtain ⟨h1, h2⟩ := cs_minus (txt 0 0 m)
  refine tok_real (by have := txt_len 0 0 m (by omega); simp; omega) ?_ h2 h1 (txt_46 _ _ _) (txt_noE _ _ _) (manOk_txt _ _ _) (by unfold sgn; rw [if_pos rfl, manN_txt _ _ _ (by omega)]) ((fits_iff _).2 ⟨by omega, by omega⟩)
  intro x hx
  rcases List.mem_cons.1 hx with rfl | hx
  · decide
  · exact txt_no35 _ _ _ x hx
theorem realL_pos (m : Nat) (hm : m ≤ 2147483647) : realL (m : Int) = txt 0 0 m ∧ printL (m : Int) = printU m := by
  have hf : fits (m : Int) = true := (fits_iff _).2 ⟨by omega, by omega⟩
  have hp : printL (m : Int) = printU m := by unfold printL; rw [hf, if_pos rfl, if_neg (by omega), Int.toNat_natCast]
  refine ⟨?_, hp⟩
  unfold realL; rw [hf, if_pos rfl, hp, ← realU_txt]
  by_cases h : m % 65536 = 0
  · rw [if_pos (by omega), if_pos h]
  · rw [if_neg (by omega), if_neg h]
theorem realL_neg (m : Nat) (h1 : 1 ≤ m) (hm : m ≤ 2147483648) : realL (-(m : Int)) = 45 :: txt 0 0 m ∧ printL (-(m : Int)) = 45 :: printU m := by
  have hf : fits (-(m : Int)) = true := (fits_iff _).2 ⟨by omega, by omega⟩
  have hp : printL (-(m : Int)) = 45 :: printU m := by unfold printL; rw [hf, if_pos rfl, if_pos (by omega), Int.natAbs_neg, Int.natAbs_natCast]
  refine ⟨?_, hp⟩
  unfold realL; rw [hf, if_pos rfl, hp, ← realU_txt]
  by_cases h : m % 65536 = 0
  · rw [if_pos (by omega), if_pos h]; rfl
  · rw [if_neg (by omega), if_neg h]
theorem txt_more (za zb m : Nat) : txt za zb m ++ [48] = txt za (zb + 1) m := by
  unfold txt; rw [List.replicate_succ']; simp
theorem txt_ahead (za zb m : Nat) : 48 :: txt za zb m = txt (za + 1) zb m := by
  unfold txt; rw [List.replicate_succ]; rfl
end Dc
theorem plus_any (s : ByteArray) (n : Int) (hs : s.size ≤ 100) (w : World) (hm : Mx w) (h : parseO (43 :: s.data.toList) = some n) : Calls Tryd.prog 18 #[.string s, .int .i64 n] w fun e w' => e = .returned (.bool true) ∧ Below w.heap.size w w' := by
  have hP : ∀ t : ByteArray, t.data.toList = 43 :: s.data.toList → t.size ≤ 3000 → Calls Tryd.prog 14 #[.string t] w (ParPost (some n) w) := by
    intro t ht hts
    have := decParse_any t hts w hm
    rw [ht, h] at this; exact this
  have h1 := hP (⟨#[43]⟩ ++ s) (by rw [data_app]; rfl) (by rw [size_app]; have : (⟨#[43]⟩ : ByteArray).size = 1 := rfl; omega)
  unfold ParPost at h1
  simp only [Option.getD_some, Option.isSome_some] at h1
  have H1 := Lib.hid h1
  clear hP h1 h hm
  go_enter Tryd.func18, Tryd.ntmps18
  go_wp2_with fail
  refine H1.out.mono ?_
  rintro e w1 ⟨rfl, hb⟩
  have HB := Lib.hid hb
  clear hb
  go_wp2_with fail
  go_ret
  exact ⟨rfl, HB.out⟩
def BkRel (P : List UInt8) (m zb : Nat) (s i : Value) : Prop := ∃ (k : Nat) (b : ByteArray), k ≤ zb ∧ i = .int .i64 (k : Int) ∧ s = .string b ∧ b.data.toList = P ++ txt 0 k m
def AhRel (m zb za : Nat) (s i : Value) : Prop := ∃ (k : Nat) (b : ByteArray), k ≤ za ∧ i = .int .i64 (k : Int) ∧ s = .string b ∧ b.data.toList = txt k zb m
set_option maxRecDepth 100000 in
set_option maxHeartbeats 1000000 in
theorem back_pos (m : Nat) (hm : m ≤ 2147483647) (ah be : Int) (ha0 : 0 ≤ ah) (ha1 : ah ≤ 255) (hb0 : 0 ≤ be) (hb1 : be ≤ 255) (w : World) (ht : Tab w) (hm0 : Mx w) :
    Calls Tryd.prog 6 #[.int .i32 (m : Int), .int .u8 ah, .int .u8 be] w fun e w' => e = .returned (.bool true) ∧ Below w.heap.size w w' := by
  obtain ⟨za, hza⟩ : ∃ za : Nat, ah % 15 = (za : Int) := ⟨(ah % 15).toNat, by omega⟩
  obtain ⟨zb, hzb⟩ : ∃ zb : Nat, be % 15 = (zb : Int) := ⟨(be % 15).toNat, by omega⟩
  have hza1 : za ≤ 14 := by omega
  have hzb1 : zb ≤ 14 := by omega
  obtain ⟨hr, hp⟩ := realL_pos m hm
  have hP := fun w ht => decPrint_any (m : Int) w ht
  have hR := fun w ht => decReal_any (m : Int) w ht
  rw [hp] at hP
  rw [hr] at hR
  have HP := Lib.hid hP
  have HR := Lib.hid hR
  have HT := Lib.hid ht
  have HM := Lib.hid hm0
  have htl := txt_len 0 0 m (by omega)
  clear hP hR ht hm0 hr hp
  go_enter Tryd.func6, Tryd.ntmps6
  go_wp2_with fail
  refine (HP.out _ HT.out).mono ?_
  rintro e w1 ⟨s, rfl, hs, hb1⟩
  have HB1 := Lib.hid hb1
  have HS := Lib.hid hs
  clear hb1 hs
  go_wp2_with fail
  refine (HR.out _ (HT.out.below HB1.out)).mono ?_
  rintro e w2 ⟨r, rfl, hrl, hb2⟩
  have HB2 := Lib.hid (bthen HB1.out hb2)
  have hrs : r.size ≤ 25 := len_le hrl (by omega)
  have HRL := Lib.hid hrl
  have hss : s.size ≤ 25 := len_le HS.out (by have h1 := printU_len m (by omega); omega)
  clear hb2 hrl
  have h3 := decParse_any s (by omega) w2 (HM.out.below HB2.out)
  rw [HS.out, parse_printU m hm] at h3
  unfold ParPost at h3
  simp only [Option.getD_some, Option.isSome_some] at h3
  have H3 := Lib.hid h3
  clear h3
  go_wp2_with fail
  refine H3.out.mono ?_
  rintro e w3 ⟨rfl, hb3⟩
  have HB3 := Lib.hid (bthen HB2.out hb3)
  clear hb3
  have h4 := decParse_any r (by omega) w3 (HM.out.below HB3.out)
  rw [HRL.out, parse_pos 0 0 m hm (by omega)] at h4
  unfold ParPost at h4
  simp only [Option.getD_some, Option.isSome_some] at h4
  have H4 := Lib.hid h4
  clear h4
  go_wp2_with fail
  refine H4.out.mono ?_
  rintro e w4 ⟨rfl, hb4⟩
  have HB4 := Lib.hid (bthen HB3.out hb4)
  clear hb4
  have h5 := decToken_any r (by omega) w4 (HM.out.below HB4.out)
  rw [HRL.out, tok_pos m hm] at h5
  unfold TokPost tokOf at h5
  simp only at h5
  have H5 := Lib.hid h5
  clear h5
  go_wp2_with fail
  refine H5.out.mono ?_
  rintro e w5 ⟨rfl, hb5⟩
  have HB5 := Lib.hid (bthen HB4.out hb5)
  clear hb5
  go_wp2_with fail
  refine (answers2_any _ (by exact HT.out.below (HB5.out.alloc HB5.out.size _))).mono ?_
  rintro e w6 ⟨rfl, hb6⟩
  obtain ⟨hc, hf⟩ := bcell hb6
  have HB6 := Lib.hid (bthen (HB5.out.alloc HB5.out.size _) hb6)
  have hg30 : decide (30 < (r.size : Int)) = false := decide_eq_false (by omega)
  clear hb6
  go_wp2_with fail
  go_loop [8, 16] (BkRel [] m zb) (fun _ i => zb - (intOf i).toNat)
  case atStart => exact ⟨0, _, by omega, rfl, rfl, HRL.out⟩
  case round =>
    obtain ⟨k, b, hk, rfl, rfl, hbl⟩ := hrel
    have hbs : b.size ≤ 40 := len_le hbl (by have := txt_len 0 k m (by omega); simp; omega)
    by_cases hkz : k < zb
    · have HBL := Lib.hid hbl
      clear hbl
      have hkb : decide ((k : Int) < (zb : Int)) = true := decide_eq_true (by omega)
      go_wp2_with fail
      go_round
      case rel => exact ⟨k + 1, _, by omega, by go_num, rfl, by rw [data_app, HBL.out, ← txt_more]; simp⟩
      case measure => simp [intOf]; omega
    · obtain rfl : k = zb := by omega
      have hkb : decide ((k : Int) < (k : Int)) = false := decide_eq_false (by omega)
      have hbl' : b.data.toList = txt 0 k m := hbl
      obtain ⟨c, t0, hct, hcd⟩ := txt_head 0 k m
      have h0 : 0 < b.size := by rw [size_list, hbl', hct]; simp
      have hb0' : b[0] = c := by
        have h1 := getElem_at b 0 h0
        rw [hbl', hct] at h1; simp at h1; exact h1.symm
      have hb045 : ((b[0].toNat : Int) == 45) = false := by
        rw [hb0', beq_eq_false_iff_ne]; unfold isDig at hcd; omega
      have HQ := Lib.hid hbl'
      clear hbl hbl' hb0' hct hcd
      go_wp2_with fail
      go_loop [8, 18] (AhRel m k za) (fun _ i => za - (intOf i).toNat)
      case atStart => exact ⟨0, _, by omega, rfl, rfl, HQ.out⟩
      case round =>
        obtain ⟨j, t, hj, rfl, rfl, htl2⟩ := hrel
        have hts : t.size ≤ 55 := len_le htl2 (by have := txt_len j k m (by omega); omega)
        by_cases hjz : j < za
        · have HTL := Lib.hid htl2
          clear htl2
          have hjb : decide ((j : Int) < (za : Int)) = true := decide_eq_true (by omega)
          go_wp2_with fail
          go_round
          case rel => exact ⟨j + 1, _, by omega, by go_num, rfl, by rw [data_app, HTL.out, ← txt_ahead]; rfl⟩
          case measure => simp [intOf]; omega
        · obtain rfl : j = za := by omega
          have hjb : decide ((j : Int) < (j : Int)) = false := decide_eq_false (by omega)
          have h7 := decParse_any t (by omega) w6 (HM.out.below HB6.out)
          rw [htl2, parse_pos j k m hm (by omega)] at h7
          unfold ParPost at h7
          simp only [Option.getD_some, Option.isSome_some] at h7
          have H7 := Lib.hid h7
          have HTL := Lib.hid htl2
          clear h7 htl2
          go_wp2_with fail
          refine H7.out.mono ?_
          rintro e w7 ⟨rfl, hb7⟩
          have HB7 := Lib.hid (bthen HB6.out hb7)
          clear hb7
          have HPl := Lib.hid (plus_any t (m : Int) (by omega) w7 (HM.out.below HB7.out) (by rw [HTL.out]; exact parse_plus j k m hm (by omega)))
          go_wp2_with fail
          refine HPl.out.mono ?_
          rintro e w8 ⟨rfl, hb8⟩
          have HB8 := Lib.hid (bthen HB7.out hb8)
          clear hb8
          go_wp2_with fail
          go_ret
          exact ⟨rfl, HB8.out⟩
set_option maxRecDepth 100000 in
set_option maxHeartbeats 1000000 in
theorem back_neg (m : Nat) (hm1 : 1 ≤ m) (hm : m ≤ 2147483648) (ah be : Int) (ha0 : 0 ≤ ah) (ha1 : ah ≤ 255) (hb0 : 0 ≤ be) (hb1 : be ≤ 255) (w : World) (ht : Tab w) (hm0 : Mx w) :
    Calls Tryd.prog 6 #[.int .i32 (-(m : Int)), .int .u8 ah, .int .u8 be] w fun e w' => e = .returned (.bool true) ∧ Below w.heap.size w w' := by
  obtain ⟨za, hza⟩ : ∃ za : Nat, ah % 15 = (za : Int) := ⟨(ah % 15).toNat, by omega⟩
  obtain ⟨zb, hzb⟩ : ∃ zb : Nat, be % 15 = (zb : Int) := ⟨(be % 15).toNat, by omega⟩
  have hza1 : za ≤ 14 := by omega
  have hzb1 : zb ≤ 14 := by omega
  obtain ⟨hr, hp⟩ := realL_neg m hm1 hm
  have hP := fun w ht => decPrint_any (-(m : Int)) w ht
  have hR := fun w ht => decReal_any (-(m : Int)) w ht
  rw [hp] at hP
  rw [hr] at hR
  have HP := Lib.hid hP
  have HR := Lib.hid hR
  have HT := Lib.hid ht
  have HM := Lib.hid hm0
  have htl := txt_len 0 0 m (by omega)
  clear hP hR ht hm0 hr hp
  go_enter Tryd.func6, Tryd.ntmps6
  go_wp2_with fail
  refine (HP.out _ HT.out).mono ?_
  rintro e w1 ⟨s, rfl, hs, hb1⟩
  have HB1 := Lib.hid hb1
  have HS := Lib.hid hs
  clear hb1 hs
  go_wp2_with fail
  refine (HR.out _ (HT.out.below HB1.out)).mono ?_
  rintro e w2 ⟨r, rfl, hrl, hb2⟩
  have HB2 := Lib.hid (bthen HB1.out hb2)
  have hrs : r.size ≤ 25 := len_le hrl (by simp; omega)
  have HRL := Lib.hid hrl
  have hss : s.size ≤ 25 := len_le HS.out (by have h1 := printU_len m (by omega); simp; omega)
  clear hb2 hrl
  have h3 := decParse_any s (by omega) w2 (HM.out.below HB2.out)
  rw [HS.out, parse_printN m hm] at h3
  unfold ParPost at h3
  simp only [Option.getD_some, Option.isSome_some] at h3
  have H3 := Lib.hid h3
  clear h3
  go_wp2_with fail
  refine H3.out.mono ?_
  rintro e w3 ⟨rfl, hb3⟩
  have HB3 := Lib.hid (bthen HB2.out hb3)
  clear hb3
  have h4 := decParse_any r (by omega) w3 (HM.out.below HB3.out)
  rw [HRL.out, parse_neg 0 0 m hm (by omega)] at h4
  unfold ParPost at h4
  simp only [Option.getD_some, Option.isSome_some] at h4
  have H4 := Lib.hid h4
  clear h4
  go_wp2_with fail
  refine H4.out.mono ?_
  rintro e w4 ⟨rfl, hb4⟩
  have HB4 := Lib.hid (bthen HB3.out hb4)
  clear hb4
  have h5 := decToken_any r (by omega) w4 (HM.out.below HB4.out)
  rw [HRL.out, tok_neg m hm] at h5
  unfold TokPost tokOf at h5
  simp only at h5
  have H5 := Lib.hid h5
  clear h5
  go_wp2_with fail
  refine H5.out.mono ?_
  rintro e w5 ⟨rfl, hb5⟩
  have HB5 := Lib.hid (bthen HB4.out hb5)
  clear hb5
  go_wp2_with fail
  refine (answers2_any _ (by exact HT.out.below (HB5.out.alloc HB5.out.size _))).mono ?_
  rintro e w6 ⟨rfl, hb6⟩
  obtain ⟨hc, hf⟩ := bcell hb6
  have HB6 := Lib.hid (bthen (HB5.out.alloc HB5.out.size _) hb6)
  have hg30 : decide (30 < (r.size : Int)) = false := decide_eq_false (by omega)
  clear hb6
  go_wp2_with fail
  go_loop [8, 16] (BkRel [45] m zb) (fun _ i => zb - (intOf i).toNat)
  case atStart => exact ⟨0, _, by omega, rfl, rfl, HRL.out⟩
  case round =>
    obtain ⟨k, b, hk, rfl, rfl, hbl⟩ := hrel
    have hbs : b.size ≤ 40 := len_le hbl (by have := txt_len 0 k m (by omega); simp; omega)
    by_cases hkz : k < zb
    · have HBL := Lib.hid hbl
      clear hbl
      have hkb : decide ((k : Int) < (zb : Int)) = true := decide_eq_true (by omega)
      go_wp2_with fail
      go_round
      case rel => exact ⟨k + 1, _, by omega, by go_num, rfl, by rw [data_app, HBL.out, ← txt_more]; simp⟩
      case measure => simp [intOf]; omega
    · obtain rfl : k = zb := by omega
      have hkb : decide ((k : Int) < (k : Int)) = false := decide_eq_false (by omega)
      have h0 : 0 < b.size := by rw [size_list, hbl]; simp
      have hb0' : b[0] = 45 := by
        have h1 := getElem_at b 0 h0
        rw [hbl] at h1; simp at h1; exact h1.symm
      have hb045 : ((b[0].toNat : Int) == 45) = true := by rw [hb0']; rfl
      obtain ⟨q, hq⟩ : ∃ q : ByteArray, b.extract 1 b.size = q := ⟨_, rfl⟩
      have hql : q.data.toList = txt 0 k m := by rw [← hq, ext_from2, hbl]; rfl
      have HQ := Lib.hid hql
      have hqs : q.size ≤ 40 := len_le hql (by have := txt_len 0 k m (by omega); omega)
      clear hbl hb0' hql
      go_wp2_with fail
      go_loop [8, 18] (AhRel m k za) (fun _ i => za - (intOf i).toNat)
      case atStart => exact ⟨0, _, by omega, rfl, rfl, HQ.out⟩
      case round =>
        obtain ⟨j, t, hj, rfl, rfl, htl2⟩ := hrel
        have hts : t.size ≤ 55 := len_le htl2 (by have := txt_len j k m (by omega); omega)
        by_cases hjz : j < za
        · have HTL := Lib.hid htl2
          clear htl2
          have hjb : decide ((j : Int) < (za : Int)) = true := decide_eq_true (by omega)
          go_wp2_with fail
          go_round
          case rel => exact ⟨j + 1, _, by omega, by go_num, rfl, by rw [data_app, HTL.out, ← txt_ahead]; rfl⟩
          case measure => simp [intOf]; omega
        · obtain rfl : j = za := by omega
          have hjb : decide ((j : Int) < (j : Int)) = false := decide_eq_false (by omega)
          have h7 := decParse_any (⟨#[45]⟩ ++ t) (by rw [size_app]; have : (⟨#[45]⟩ : ByteArray).size = 1 := rfl; omega) w6 (HM.out.below HB6.out)
          have e7 : (⟨#[45]⟩ ++ t : ByteArray).data.toList = 45 :: txt j k m := by rw [data_app, htl2]; rfl
          rw [e7, parse_neg j k m hm (by omega)] at h7
          unfold ParPost at h7
          simp only [Option.getD_some, Option.isSome_some] at h7
          have H7 := Lib.hid h7
          clear h7 htl2 e7
          go_wp2_with fail
          refine H7.out.mono ?_
          rintro e w7 ⟨rfl, hb7⟩
          have HB7 := Lib.hid (bthen HB6.out hb7)
          clear hb7
          go_wp2_with fail
          go_ret
          exact ⟨rfl, HB7.out⟩
theorem lawDecBack (n ah be : Int) (w0 : (Lit.int .i32 n).wf = true) (w1 : (Lit.int .u8 ah).wf = true) (w2 : (Lit.int .u8 be).wf = true) (w : World) (ht : Tab w) (hm : Mx w) :
    Calls Tryd.prog 6 #[.int .i32 n, .int .u8 ah, .int .u8 be] w fun e w' => e = .returned (.bool true) ∧ Below w.heap.size w w' := by
  obtain ⟨n0, n1⟩ := bounds_i32 w0
  obtain ⟨a0, a1⟩ := bounds_u8 w1
  obtain ⟨b0, b1⟩ := bounds_u8 w2
  by_cases h : n < 0
  · obtain ⟨m, rfl⟩ : ∃ m : Nat, n = -(m : Int) := ⟨n.natAbs, by omega⟩
    exact back_neg m (by omega) (by omega) ah be a0 a1 b0 b1 w ht hm
  · obtain ⟨m, rfl⟩ : ∃ m : Nat, n = (m : Int) := ⟨n.toNat, by omega⟩
    exact back_pos m (by omega) ah be a0 a1 b0 b1 w ht hm
end Go.Proofs.YtibkgkjijhcnoaaDoor
