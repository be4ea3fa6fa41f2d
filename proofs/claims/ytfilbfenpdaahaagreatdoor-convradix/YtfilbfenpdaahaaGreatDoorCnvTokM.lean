/-
  A whole number's text is a token that is it; a real's likewise.
-/
import Derived.Test.YtfilbfenpdaahaaGreatDoorDecBackW
import Derived.Test.YtfilbfenpdaahaaGreatDoorDecRadixW
import Derived.Lib.ItoaMem
namespace Go.Proofs.YtfilbfenpdaahaaGreatDoor
open Go.RowKit
open Fx Dc
namespace Cv
theorem dec_head (u : Nat) : ∃ c t, Lib.decDigits u = c :: t ∧ isDig c := by
  have hp := decDigits_pos u
  cases h : Lib.decDigits u with
  | nil => rw [h] at hp; simp at hp
  | cons x y => exact ⟨x, y, rfl, decDigits_dig u x (by rw [h]; exact List.mem_cons_self ..)⟩
theorem dec_no35 (u : Nat) : ∀ x ∈ Lib.decDigits u, x ≠ 35 := fun x hx => dig_ne (decDigits_dig u x hx) (by unfold isDig; decide)
theorem tok_whole {l r : List UInt8} {b : Bool} {u : Nat} {v : Int} (h64 : l.length ≤ 64) (h35 : ∀ x ∈ l, x ≠ 35) (hL : csL l = r) (hB : csB l = b) (hr : r = Lib.decDigits u) (hu : u < 4294967296) (hv : sgn b u = v) (hf : fits v = true) : tokR l = (1, v, true, 0) := by
  have hd : rdD 10 r 0 = some (u : Int) := by rw [hr]; exact rdD_dig u hu
  have hne : r.isEmpty = false := by
    obtain ⟨c, t, h, _⟩ := dec_head u
    rw [hr, h]; rfl
  have h1 : rdOk 10 r = true := by unfold rdOk; rw [hd, hne]; rfl
  have h2 : rdV 10 r = u := by unfold rdV; rw [hd]; rfl
  have hw : whoO l = some v := by
    unfold whoO
    rw [hL, hB, h1, h2, hv, hf]; rfl
  unfold tokR
  rw [if_neg (by omega), no_hash h35, if_neg (by simp), hw]
  simp only [Option.isSome_some, if_true, Option.getD_some]
theorem tok_itoa (n : Int) (h : -2147483648 ≤ n ∧ n ≤ 2147483647) : tokR (Lib.itoa n) = (1, n, true, 0) := by
  have hf : fits n = true := (fits_iff _).2 h
  by_cases h0 : n < 0
  · obtain ⟨u, rfl⟩ : ∃ u : Nat, n = -(u : Int) := ⟨n.natAbs, by omega⟩
    have e := Lib.itoa_neg u (by omega)
    rw [e]
    obtain ⟨h1, h2⟩ := cs_minus (Lib.decDigits u)
    refine tok_whole (u := u) ?_ ?_ h2 h1 rfl (by omega) (by unfold sgn; rw [if_pos rfl]) hf
    · have := decDigits_len 9 u (by omega); simp; omega
    · intro x hx
      rcases List.mem_cons.1 hx with rfl | hx
      · decide
      · exact dec_no35 u x hx
  · obtain ⟨u, rfl⟩ : ∃ u : Nat, n = (u : Int) := ⟨n.toNat, by omega⟩
    rw [Lib.itoa_nonneg u]
    obtain ⟨c, t, hc, hd⟩ := dec_head u
    have h12 := cs_digit (t := t) hd
    rw [← hc] at h12
    refine tok_whole (u := u) ?_ (dec_no35 u) h12.2 h12.1 rfl (by omega) (by unfold sgn; rw [if_neg (by simp)]) hf
    have := decDigits_len 9 u (by omega); omega
theorem tok_realL (n : Int) (h : -2147483648 ≤ n ∧ n ≤ 2147483647) : tokR (realL n) = (2, n, true, 0) := by
  by_cases h0 : n < 0
  · obtain ⟨u, rfl⟩ : ∃ u : Nat, n = -(u : Int) := ⟨n.natAbs, by omega⟩
    rw [(realL_neg u (by omega) (by omega)).1]
    exact tok_neg u (by omega)
  · obtain ⟨u, rfl⟩ : ∃ u : Nat, n = (u : Int) := ⟨n.toNat, by omega⟩
    rw [(realL_pos u (by omega)).1]
    exact tok_pos u (by omega)
/-- the text of a number of 32 bits is not long -/
theorem itoa_len (n : Int) (h : -2147483648 ≤ n ∧ n ≤ 2147483647) : (Lib.itoa n).length ≤ 60 := by
  by_cases h0 : n < 0
  · obtain ⟨u, rfl⟩ : ∃ u : Nat, n = -(u : Int) := ⟨n.natAbs, by omega⟩
    rw [Lib.itoa_neg u (by omega)]
    have := decDigits_len 9 u (by omega); simp; omega
  · obtain ⟨u, rfl⟩ : ∃ u : Nat, n = (u : Int) := ⟨n.toNat, by omega⟩
    rw [Lib.itoa_nonneg u]
    have := decDigits_len 9 u (by omega); omega
theorem realL_len (n : Int) (h : -2147483648 ≤ n ∧ n ≤ 2147483647) : (realL n).length ≤ 60 := by
  by_cases h0 : n < 0
  · obtain ⟨u, rfl⟩ : ∃ u : Nat, n = -(u : Int) := ⟨n.natAbs, by omega⟩
    rw [(realL_neg u (by omega) (by omega)).1]
    have := txt_len 0 0 u (by omega); simp; omega
  · obtain ⟨u, rfl⟩ : ∃ u : Nat, n = (u : Int) := ⟨n.toNat, by omega⟩
    rw [(realL_pos u (by omega)).1]
    have := txt_len 0 0 u (by omega); omega
end Cv
end Go.Proofs.YtfilbfenpdaahaaGreatDoor
