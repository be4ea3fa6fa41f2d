/-
  What a byte is to the reader, by contracts: blank, regular, within a comment, an octal digit, a hexadecimal one.
-/
import Derived.Test.YtaebpjcigajolaaScanRead
namespace Go.Proofs.Ytaebpjcigajolaa
open Go.RowKit
open Sc
namespace Sc
theorem beq_nat (c k : UInt8) : (c == k) = decide (c.toNat = k.toNat) := by
  by_cases h : c = k
  · subst h; simp
  · have : ¬ c.toNat = k.toNat := fun e => h (UInt8.toNat_inj.1 e)
    simp [h, this]
theorem blank_nat (c : UInt8) : blnk c = decide (c.toNat = 0 ∨ c.toNat = 9 ∨ c.toNat = 10 ∨ c.toNat = 12 ∨ c.toNat = 13 ∨ c.toNat = 32) := by
  unfold blnk
  simp only [beq_nat, ← Bool.decide_or]
  apply decide_eq_decide.2
  show ((((( c.toNat = 0 ∨ c.toNat = 9) ∨ c.toNat = 10) ∨ c.toNat = 12) ∨ c.toNat = 13) ∨ c.toNat = 32) ↔ _
  omega
theorem delim_nat (c : UInt8) : delim c = decide (c.toNat = 40 ∨ c.toNat = 41 ∨ c.toNat = 60 ∨ c.toNat = 62 ∨ c.toNat = 91 ∨ c.toNat = 93 ∨ c.toNat = 123 ∨ c.toNat = 125 ∨ c.toNat = 47 ∨ c.toNat = 37) := by
  unfold delim
  simp only [beq_nat, ← Bool.decide_or]
  apply decide_eq_decide.2
  show ((((((((( c.toNat = 40 ∨ c.toNat = 41) ∨ c.toNat = 60) ∨ c.toNat = 62) ∨ c.toNat = 91) ∨ c.toNat = 93) ∨ c.toNat = 123) ∨ c.toNat = 125) ∨ c.toNat = 47) ∨ c.toNat = 37) ↔ _
  omega
theorem inCom_nat (c : UInt8) : inCom c = decide (c.toNat ≠ 10 ∧ c.toNat ≠ 13 ∧ c.toNat ≠ 12) := by
  unfold inCom
  simp only [beq_nat, ← Bool.decide_or, ← decide_not]
  apply decide_eq_decide.2
  show (¬ ((c.toNat = 10 ∨ c.toNat = 13) ∨ c.toNat = 12)) ↔ _
  omega
theorem regular_nat (c : UInt8) : regular c = (!blnk c && !delim c) := rfl
theorem isOct_nat (c : UInt8) : isOct c = decide (48 ≤ c.toNat ∧ c.toNat ≤ 55) := by
  unfold isOct; rw [Bool.decide_and]
end Sc
/-- a test of a byte answers b -/
def Says (b : Bool) (w : World) (e : Ending) (w' : World) : Prop := e = .returned (.bool b) ∧ w' = w
theorem said {b c : Bool} {w : World} (h : c = b) : Ending.returned (Value.bool b) = Ending.returned (Value.bool c) ∧ w = w := ⟨by rw [h], rfl⟩
theorem isBlank_at (c : UInt8) (w : World) : Calls Try.prog 48 #[.int .u8 c.toNat] w (Says (blnk c) w) := by
  have HB := Lib.hid (blank_nat c)
  unfold Says
  generalize c.toNat = n at *
  go_enter Try.func48, Try.ntmps48
  go_wp2_with fail
  all_goals go_ret
  all_goals refine said ?_
  all_goals rw [HB.out]
  all_goals simp only [beq_iff_eq, beq_eq_false_iff_ne, ne_eq] at *
  all_goals first | (apply decide_eq_true; omega) | (apply decide_eq_false; omega)
theorem inComment_at (c : UInt8) (w : World) : Calls Try.prog 49 #[.int .u8 c.toNat] w (Says (inCom c) w) := by
  have HB := Lib.hid (inCom_nat c)
  unfold Says
  generalize c.toNat = n at *
  go_enter Try.func49, Try.ntmps49
  go_wp2_with fail
  all_goals go_ret
  all_goals refine said ?_
  all_goals rw [HB.out, Bool.eq_iff_iff]
  all_goals simp only [decide_eq_true_eq, Bool.and_eq_true, bne_iff_ne, ne_eq, Bool.false_eq_true, iff_false]
  all_goals omega
theorem isRegular_at (c : UInt8) (w : World) : Calls Try.prog 31 #[.int .u8 c.toNat] w (Says (regular c) w) := by
  have HB := Lib.hid (delim_nat c)
  have HR := Lib.hid (regular_nat c)
  have HI := Lib.hid (fun w => isBlank_at c w)
  unfold Says at *
  generalize c.toNat = n at *
  generalize blnk c = b at *
  go_enter Try.func31, Try.ntmps31
  go_wp2_with (first | (go_at_call 48; refine (HI.out _).mono ?_; rintro e w2 ⟨rfl, rfl⟩))
  all_goals go_ret
  all_goals refine said ?_
  all_goals rw [HR.out, HB.out]
  all_goals simp only [beq_iff_eq, beq_eq_false_iff_ne, ne_eq] at *
  all_goals first | (rw [decide_eq_true (by omega)]; simp; done) | (rw [decide_eq_false (by omega)]; simp; done)
theorem isOctal_at (c : UInt8) (w : World) : Calls Try.prog 72 #[.int .u8 c.toNat] w (Says (isOct c) w) := by
  have HB := Lib.hid (isOct_nat c)
  unfold Says
  generalize c.toNat = n at *
  go_enter Try.func72, Try.ntmps72
  go_wp2_with fail
  all_goals go_ret
  all_goals refine said ?_
  all_goals rw [HB.out, Bool.eq_iff_iff]
  all_goals simp only [decide_eq_true_eq, Bool.false_eq_true, iff_false]
  all_goals omega
end Go.Proofs.Ytaebpjcigajolaa
