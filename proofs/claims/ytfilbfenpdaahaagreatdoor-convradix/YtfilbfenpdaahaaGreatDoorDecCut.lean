/-
  Plain facts on cutting a text at a byte.
-/
import Derived.Test.YtfilbfenpdaahaaGreatDoorDecUdec
import Derived.Lib.IndexMore
import Derived.Lib.IndexBytes
namespace Go.Proofs.YtfilbfenpdaahaaGreatDoor.Dc
theorem indexByte_app {a b : List UInt8} {c : UInt8} (h : ∀ x ∈ a, x ≠ c) : Lib.indexByte (a ++ c :: b) c = a.length := by
  induction a with
  | nil => simp [Lib.indexByte]
  | cons x a ih =>
    have h1 := ih (fun y hy => h y (List.mem_cons_of_mem _ hy))
    have hx : (x == c) = false := by simp; exact h x (List.mem_cons_self ..)
    rw [List.cons_append, Lib.indexByte, hx, h1]
    have h2 : ((a.length : Int) == -1) = false := by simp
    rw [h2]; simp
theorem cut_app {a b : List UInt8} {c : UInt8} (h : ∀ x ∈ a, x ≠ c) : Lib.cut (a ++ c :: b) [c] = (a, b, true) := by
  have h1 : Lib.index (a ++ c :: b) [c] = (a.length : Int) := by rw [Lib.index_one, indexByte_app h]
  unfold Lib.cut
  rw [h1, if_pos (by omega)]
  have h2 : a.length + 1 = a.length + [c].length := by simp
  simp
end Go.Proofs.YtfilbfenpdaahaaGreatDoor.Dc
