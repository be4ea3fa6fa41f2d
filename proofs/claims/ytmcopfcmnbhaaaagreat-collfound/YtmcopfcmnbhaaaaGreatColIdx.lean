/-
  Where a text is first in another one, plainly.
-/
import Derived.Test.YtmcopfcmnbhaaaaGreatRows
import Derived.Lib.Index
namespace Go.Proofs.YtmcopfcmnbhaaaaGreat
namespace Col
theorem pre_take {sub s : List UInt8} : sub.isPrefixOf s = true ↔ s.take sub.length = sub := by
  rw [List.isPrefixOf_iff_prefix, List.prefix_iff_eq_take]
  exact eq_comm
theorem index_spec : ∀ (s sub : List UInt8), (Lib.index s sub = -1 ∧ ∀ j, j + sub.length ≤ s.length → (s.drop j).take sub.length ≠ sub) ∨
    ∃ i : Nat, Lib.index s sub = i ∧ i + sub.length ≤ s.length ∧ (s.drop i).take sub.length = sub ∧ ∀ j, j < i → (s.drop j).take sub.length ≠ sub
  | [], sub => by
    cases sub with
    | nil => exact .inr ⟨0, rfl, by simp, rfl, fun j hj => absurd hj (by omega)⟩
    | cons c r => exact .inl ⟨rfl, fun j hj => absurd hj (by simp)⟩
  | b :: l, sub => by
    unfold Lib.index
    by_cases hp : sub.isPrefixOf (b :: l) = true
    · rw [if_pos hp]
      have ht := pre_take.1 hp
      have hl : sub.length ≤ (b :: l).length := by
        have := congrArg List.length ht
        rw [List.length_take] at this
        omega
      exact .inr ⟨0, rfl, by simpa using hl, by simpa using ht, fun j hj => absurd hj (by omega)⟩
    · rw [if_neg hp]
      have h0 : (b :: l).take sub.length ≠ sub := fun e => hp (pre_take.2 e)
      rcases index_spec l sub with ⟨hi, hn⟩ | ⟨i, hi, hle, ht, hn⟩
      · rw [hi]
        refine .inl ⟨by simp, fun j hj => ?_⟩
        cases j with
        | zero => simpa using h0
        | succ j => simpa using hn j (by simp at hj; omega)
      · rw [hi]
        have : ((i : Int) == -1) = false := by simp
        rw [this]
        refine .inr ⟨i + 1, by simp, by simp; omega, by simpa using ht, fun j hj => ?_⟩
        cases j with
        | zero => simpa using h0
        | succ j => simpa using hn j (by omega)
end Col
end Go.Proofs.YtmcopfcmnbhaaaaGreat
