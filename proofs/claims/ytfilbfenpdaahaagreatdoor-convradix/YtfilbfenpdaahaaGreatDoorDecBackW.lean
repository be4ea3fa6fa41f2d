/-
  The walk of the law DecBack: a number's text is read as it.
-/
import Derived.Test.YtfilbfenpdaahaaGreatDoorDecVal
import Derived.Test.YtfilbfenpdaahaaGreatDoorDecRefPrint
import Derived.OpenShut
namespace Go.Proofs.YtfilbfenpdaahaaGreatDoor
open Go.RowKit
open Fx Dc
namespace Dc
theorem rdD_none {base : Int} : ∀ {l : List UInt8} {n : Int} {c : UInt8}, c ∈ l → ¬ digU (c.toNat : Int) < base → rdD base l n = none
  | [], _, _, h, _ => by cases h
  | x :: t, n, c, h, hc => by
    rw [rdD_cons]
    split
    · rename_i hx
      rcases List.mem_cons.1 h with rfl | h
      · exact absurd hx hc
      · exact rdD_none h hc
    · rfl
theorem no_any {l : List UInt8} (h : ∀ x ∈ l, x ≠ 101 ∧ x ≠ 69) : pwAt l = -1 := by
  unfold pwAt
  apply Lib.indexAny_none
  intro j b _ hb
  obtain ⟨h1, h2⟩ := h b (List.mem_of_getElem? hb)
  simp [h1, h2]
theorem no_hash {l : List UInt8} (h : ∀ x ∈ l, x ≠ 35) : (Lib.cut l [35]).2.2 = false := by
  have h1 : Lib.index l [35] = -1 := by rw [Lib.index_one, indexByte_neg h]
  unfold Lib.cut; rw [h1]; rfl
/-- a text that is a real without a power -/
theorem tok_real {l r : List UInt8} {b : Bool} {v : Int} (h64 : l.length ≤ 64) (h35 : ∀ x ∈ l, x ≠ 35) (hL : csL l = r) (hB : csB l = b) (h46 : (46 : UInt8) ∈ r) (hE : ∀ x ∈ r, x ≠ 101 ∧ x ≠ 69)
    (hok : manOk r = true) (hv : sgn b (manN r 0) = v) (hf : fits v = true) : tokR l = (2, v, true, 0) := by
  have hw : whoO l = none := by
    have : rdD 10 r 0 = none := rdD_none h46 (by decide)
    have h2 : rdOk 10 r = false := by unfold rdOk; rw [this]; rfl
    unfold whoO; rw [hL, h2]; rfl
  have hp := no_any hE
  have hpo : pwOk r = true := by unfold pwOk; rw [hp]; rfl
  have hpn : pwN r = 0 := by unfold pwN; rw [hp]; rfl
  have hpm : pwM r = r := by unfold pwM; rw [hp]; rfl
  have hro : reaOk l = true := by unfold reaOk; rw [hL, hpo, hpm, hok]; rfl
  have hrn : reaN l = v := by unfold reaN; rw [hL, hB, hpm, hpn]; exact hv
  unfold tokR
  rw [if_neg (by omega), no_hash h35, if_neg (by simp), hw]
  simp only [Option.isSome_none, Bool.false_eq_true, if_false]
  unfold reaK reaV reaE
  rw [hro, hrn, hf]; rfl
theorem txt_chars (za zb m : Nat) : ∀ x ∈ txt za zb m, isDig x ∨ x = 46 := by
  intro x hx
  unfold txt at hx
  rcases List.mem_append.1 hx with h | h
  · left; exact allDig_app (zeros_dig za) (decDigits_dig _) x h
  · rcases List.mem_cons.1 h with h | h
    · right; exact h
    · left; exact allDig_app (tailU_dig m) (zeros_dig zb) x h
theorem dig_ne {x c : UInt8} (h : isDig x) (hc : ¬ isDig c) : x ≠ c := by rintro rfl; exact hc h
theorem txt_46 (za zb m : Nat) : (46 : UInt8) ∈ txt za zb m := by unfold txt; simp
theorem txt_no35 (za zb m : Nat) : ∀ x ∈ txt za zb m, x ≠ 35 := by
  intro x hx
  rcases txt_chars za zb m x hx with h | h
  · exact dig_ne h (by unfold isDig; decide)
  · rw [h]; decide
theorem txt_noE (za zb m : Nat) : ∀ x ∈ txt za zb m, x ≠ 101 ∧ x ≠ 69 := by
  intro x hx
  rcases txt_chars za zb m x hx with h | h
  · exact ⟨dig_ne h (by unfold isDig; decide), dig_ne h (by unfold isDig; decide)⟩
  · rw [h]; decide
theorem tok_pos (m : Nat) (hm : m ≤ 2147483647) : tokR (txt 0 0 m) = (2, (m : Int), true, 0) := by
  obtain ⟨h1, h2⟩ := cs_txt 0 0 m
  exact tok_real (by have := txt_len 0 0 m (by omega); omega) (txt_no35 _ _ _) h2 h1 (txt_46 _ _ _) (txt_noE _ _ _) (manOk_txt _ _ _) (by unfold sgn; rw [if_neg (by simp), manN_txt _ _ _ (by omega)]) ((fits_iff _).2 ⟨by omega, by omega⟩)
theorem tok_neg (m : Nat) (hm : m ≤ 2147483648) : tokR (45 :: txt 0 0 m) = (2, -(m : Int), true, 0) := by
  obtain ⟨h1, h2⟩ := cs_minus (txt 0 0 m)
  refine tok_real (by have := txt_len 0 0 m (by omega); simp; omega) ?_ h2 h1 (txt_46 _ _ _) (txt_noE _ _ _) (manOk_txt _ _ _) (by unfold sgn; rw [if_pos rfl, manN_txt _ _ _ (by omega)]) ((fits_iff _).2 ⟨by omega, by omega⟩)
  intro x hx
  rcases List.mem_cons.1 hx with rfl | hx
  · decide
  · exact txt_no35 _ _ _ x hx
theorem realL_pos (m : Nat) (hm : m ≤ 2147483647) : realL (m : Int) = txt 0 0 m ∧ printL (m : Int) = printU m := by
  have hf : fits (m : Int) = true := (fits_iff _).2 ⟨by omega, by omega⟩
  have hp : printL (m : Int) = printU m := by unfold printL; rw [hf, if_pos rfl, if_neg (by omega), Int.toNat_natCast]
  refine ⟨?_, hp⟩
  unfold realL; rw [hf, if_pos rfl, hp, ← realU_txt]
  by_cases h : m % 65536 = 0
  · rw [if_pos (by omega), if_pos h]
  · rw [if_neg (by omega), if_neg h]
theorem realL_neg (m : Nat) (h1 : 1 ≤ m) (hm : m ≤ 2147483648) : realL (-(m : Int)) = 45 :: txt 0 0 m ∧ printL (-(m : Int)) = 45 :: printU m := by
  have hf : fits (-(m : Int)) = true := (fits_iff _).2 ⟨by omega, by omega⟩
  have hp : printL (-(m : Int)) = 45 :: printU m := by unfold printL; rw [hf, if_pos rfl, if_pos (by omega), Int.natAbs_neg, Int.natAbs_natCast]
  refine ⟨?_, hp⟩
  unfold realL; rw [hf, if_pos rfl, hp, ← realU_txt]
  by_cases h : m % 65536 = 0
  · rw [if_pos (by omega), if_pos h]; rfl
  · rw [if_neg (by omega), if_neg h]
theorem txt_more (za zb m : Nat) : txt za zb m ++ [48] = txt za (zb + 1) m := by
  unfold txt; rw [List.replicate_succ']; simp
theorem txt_ahead (za zb m : Nat) : 48 :: txt za zb m = txt (za + 1) zb m := by
  unfold txt; rw [List.replicate_succ]; rfl
end Dc
def BkRel (P : List UInt8) (m zb : Nat) (s i : Value) : Prop := ∃ (k : Nat) (b : ByteArray), k ≤ zb ∧ i = .int .i64 (k : Int) ∧ s = .string b ∧ b.data.toList = P ++ txt 0 k m
def AhRel (m zb za : Nat) (s i : Value) : Prop := ∃ (k : Nat) (b : ByteArray), k ≤ za ∧ i = .int .i64 (k : Int) ∧ s = .string b ∧ b.data.toList = txt k zb m
end Go.Proofs.YtfilbfenpdaahaaGreatDoor
