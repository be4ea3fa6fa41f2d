/-
  The contracts of the document's Digits, plain and signed.
-/
import Derived.Test.YtaebpjcigajolaaDecParse
namespace Go.Proofs.Ytaebpjcigajolaa
open Go.RowKit
open Fx Dc
namespace Dc
def isD (c : UInt8) : Bool := decide (48 ≤ c.toNat) && decide (c.toNat ≤ 57)
/-- how many digits begin a text -/
def nDg (l : List UInt8) : Nat := (l.takeWhile isD).length
theorem nDg_le (l : List UInt8) : nDg l ≤ l.length := by
  unfold nDg; exact (List.takeWhile_sublist isD).length_le
theorem nDg_at {l : List UInt8} {k : Nat} {c : UInt8} (hk : k ≤ nDg l) (hc : l[k]? = some c) : (isD c = true ∧ k < nDg l) ∨ (isD c = false ∧ k = nDg l) := by
  induction l generalizing k with
  | nil => simp at hc
  | cons x l ih =>
    unfold nDg at *
    rw [List.takeWhile_cons] at *
    cases hx : isD x with
    | false =>
      rw [hx] at hk
      have : k = 0 := by simpa using hk
      subst this
      simp at hc; subst hc
      right; rw [hx]; simp
    | true =>
      rw [hx] at hk
      cases k with
      | zero => simp at hc; subst hc; left; rw [hx]; simp
      | succ k =>
        simp at hk hc
        rcases ih hk hc with ⟨h1, h2⟩ | ⟨h1, h2⟩
        · left; simp; exact ⟨h1, h2⟩
        · right; simp; exact ⟨h1, h2⟩
theorem nDg_end {l : List UInt8} {k : Nat} (hk : k ≤ nDg l) (hl : l.length ≤ k) : k = nDg l := by have := nDg_le l; omega
end Dc
theorem getElem_of (s : ByteArray) (k : Nat) (h : k < s.size) : s.data.toList[k]? = some s[k] := by
  rw [List.getElem?_eq_getElem (by simpa using h)]; rfl
theorem refDigits_any (s : ByteArray) (hs : s.size ≤ 3000) (w : World) : Calls Try.prog 42 #[.string s] w fun e w' => e = .returned (.int .i64 (nDg s.data.toList : Nat)) ∧ w = w' := by
  go_enter Try.func42, Try.ntmps42
  go_wp2_with fail
  go_loop [3] (fun n => ∃ k : Nat, k ≤ nDg s.data.toList ∧ k ≤ s.size ∧ n = .int .i64 (k : Int)) (fun n => s.size - (intOf n).toNat)
  case atStart => exact ⟨0, by omega, by omega, rfl⟩
  case round =>
    obtain ⟨k, hk, hks, rfl⟩ := hrel
    by_cases hlt : k < s.size
    · have hc := nDg_at hk (getElem_of s k hlt)
      unfold isD at hc
      have hlt2 : decide ((k : Int) < (s.size : Int)) = true := by simp; omega
      by_cases h1 : 48 ≤ s[k].toNat
      · have h1' : decide (48 ≤ (s[k].toNat : Int)) = true := by simp; omega
        by_cases h2 : s[k].toNat ≤ 57
        · have h2' : decide ((s[k].toNat : Int) ≤ 57) = true := by simp; omega
          have HK : Hid (k < nDg s.data.toList) := by
            rcases hc with ⟨_, h⟩ | ⟨h, _⟩
            · exact h
            · simp at h; omega
          clear hc
          go_wp2_with fail
          go_round
          case rel => exact ⟨k + 1, HK.out, by omega, by go_num⟩
          case measure => simp [intOf]; omega
        · have h2' : decide ((s[k].toNat : Int) ≤ 57) = false := by simp; omega
          have HK : Hid (k = nDg s.data.toList) := by
            rcases hc with ⟨h, _⟩ | ⟨_, h⟩
            · simp at h; omega
            · exact h
          clear hc
          go_wp2_with fail
          go_ret
          exact ⟨ret_int (by rw [← HK.out]), rfl⟩
      · have h1' : decide (48 ≤ (s[k].toNat : Int)) = false := by simp; omega
        have HK : Hid (k = nDg s.data.toList) := by
          rcases hc with ⟨h, _⟩ | ⟨_, h⟩
          · simp at h; omega
          · exact h
        clear hc
        go_wp2_with fail
        go_ret
        exact ⟨ret_int (by rw [← HK.out]), rfl⟩
    · have HK := Lib.hid (nDg_end hk (by rw [← size_list]; omega))
      have hlt2 : decide ((k : Int) < (s.size : Int)) = false := by simp; omega
      go_wp2_with fail
      go_ret
      exact ⟨ret_int (by rw [← HK.out]), rfl⟩
theorem refSigned_any (n : Int) (b : Bool) (w : World) (h0 : -9000000000000000000 ≤ n) (h1 : n ≤ 9000000000000000000) :
    Calls Try.prog 46 #[.int .i64 n, .bool b] w fun e w' => e = .returned (.tuple #[.int .i64 (if fits (sgn b n) = true then sgn b n else 0), .bool (fits (sgn b n))]) ∧ w = w' := by
  cases b
  · have e : sgn false n = n := rfl
    rw [e]
    cases hf : fits n
    · rw [if_neg (by simp)]
      have HF := Lib.hid (fun w => refFits_no n w hf)
      clear hf e
      go_enter Try.func46, Try.ntmps46
      go_wp2_with fail
      refine (HF.out _).mono ?_; rintro e w' ⟨rfl, rfl⟩
      go_wp2_with fail
      go_ret2
      exact ⟨rfl, rfl⟩
    · rw [if_pos rfl]
      have HF := Lib.hid (fun w => refFits_yes n w hf)
      clear hf e
      go_enter Try.func46, Try.ntmps46
      go_wp2_with fail
      refine (HF.out _).mono ?_; rintro e w' ⟨rfl, rfl⟩
      go_wp2_with fail
      go_ret2
      exact ⟨rfl, rfl⟩
  · have e : sgn true n = -n := rfl
    rw [e]
    cases hf : fits (-n)
    · rw [if_neg (by simp)]
      have HF := Lib.hid (fun w => refFits_no (-n) w hf)
      clear hf e
      go_enter Try.func46, Try.ntmps46
      go_wp2_with fail
      refine (HF.out _).mono ?_; rintro e w' ⟨rfl, rfl⟩
      go_wp2_with fail
      go_ret2
      exact ⟨rfl, rfl⟩
    · rw [if_pos rfl]
      have HF := Lib.hid (fun w => refFits_yes (-n) w hf)
      clear hf e
      go_enter Try.func46, Try.ntmps46
      go_wp2_with fail
      refine (HF.out _).mono ?_; rintro e w' ⟨rfl, rfl⟩
      go_wp2_with fail
      go_ret2
      exact ⟨rfl, rfl⟩
end Go.Proofs.Ytaebpjcigajolaa
