/-
  The contracts of the document's Print and PrintReal; the walk of the law DecPrints.
-/
import Derived.Test.YtfilbfenpdaahaaGreatDoorDecPrint
namespace Go.Proofs.YtfilbfenpdaahaaGreatDoor
open Go.RowKit
open Fx Dc
theorem refDec_at (z : Int) (k : Nat) (hz : z = k) (hk : k ≤ 32768) (w : World) : Calls Tryz.prog 11 #[.int .i64 z] w (StrB (Lib.decDigits k) w) := by
  subst hz
  refine (refDec_nat k w (by omega)).mono ?_
  rintro e w' ⟨rfl, hb⟩
  exact ⟨_, rfl, rfl, hb⟩
def RPartRel (L : List UInt8) (p : Nat) (w : World) (s t : Value) (w' : World) : Prop :=
  ∃ (j r : Nat) (b : ByteArray), j ≤ 16 ∧ r < 65536 ∧ 2 ^ j ∣ r ∧ t = .int .i64 r ∧ s = .string b ∧ b.size = L.length + j ∧ b.data.toList ++ frd (16 - j) r = L ++ frd 16 p ∧ Below w.heap.size w w'
theorem rpart_next {j r : Nat} {b c : ByteArray} {p : Nat} {L : List UInt8} (hj : j ≤ 16) (hr : r < 65536) (h0 : 0 < r) (hd : 2 ^ j ∣ r) (hb : b.size = L.length + j) (hl : b.data.toList ++ frd (16 - j) r = L ++ frd 16 p)
    (hc : c.data.toList = [UInt8.ofNat (48 + r * 10 / 65536)]) : j < 16 ∧ 2 ^ (j + 1) ∣ r * 10 % 65536 ∧ (b ++ c).size = L.length + (j + 1) ∧ (b ++ c).data.toList ++ frd (16 - (j + 1)) (r * 10 % 65536) = L ++ frd 16 p := by
  have hj2 : j < 16 := by
    rcases Nat.lt_or_ge j 16 with h | h
    · exact h
    · obtain rfl : j = 16 := by omega
      have := pow_end r hd hr; omega
  refine ⟨hj2, pow_step j r hd hj2, ?_, ?_⟩
  · rw [size_app, hb, size_list c, hc]; simp; omega
  · have e : 16 - j = (16 - (j + 1)) + 1 := by omega
    rw [e, frd_succ _ _ h0] at hl
    rw [data_app, hc, List.append_assoc]; exact hl
end Go.Proofs.YtfilbfenpdaahaaGreatDoor
