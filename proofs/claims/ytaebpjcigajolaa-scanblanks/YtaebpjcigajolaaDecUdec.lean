/-
  The contracts of the document's own digits of whole numbers (udec, Dec).
-/
import Derived.Test.YtaebpjcigajolaaRows
import Derived.Test.YtaebpjcigajolaaDecMath
import Derived.WalkKit
import Derived.WalkSpells
import Derived.BigQuiet
import Derived.Deep.QuietTactic
import Derived.Lib.Hide
import Derived.Laws.IdiomStrings
namespace Go.Proofs.Ytaebpjcigajolaa
open Go.RowKit
open Fx Dc
/-- one byte as a string -/
def chr1 (n : Int) : ByteArray := ⟨#[UInt8.ofNat n.toNat]⟩
theorem chr1_size (n : Int) : (chr1 n).size ≤ 1 := Nat.le_refl _
theorem chr1_list (n : Int) : (chr1 n).data.toList = [UInt8.ofNat n.toNat] := rfl
theorem data_app (a b : ByteArray) : (a ++ b).data.toList = a.data.toList ++ b.data.toList := by
  rw [ByteArray.data_append, Array.toList_append]
theorem size_app (a b : ByteArray) : (a ++ b).size = a.size + b.size := ByteArray.size_append
theorem mk_list (b : ByteArray) (l : List UInt8) (h : b.data.toList = l) : b = ⟨l.toArray⟩ := by subst h; rfl
theorem ret_str {a b : ByteArray} (h : a = b) : Ending.returned (.string a) = .returned (.string b) := by rw [h]
theorem size_list (b : ByteArray) : b.size = b.data.toList.length := Lib.size_eq b
theorem size_mk (l : List UInt8) : (⟨l.toArray⟩ : ByteArray).size = l.length := by rw [size_list]
theorem run_conv1 (W : World) (n : Int) (h0 : 0 ≤ n) (h1 : n ≤ 255) :
    (convert 22 9 (.slice (some ⟨W.heap.size, 0, none⟩) 1 1)).run Try.prog (W.alloc (.cells #[.int .u8 n] 5)) = .ok (.string (chr1 n)) (W.alloc (.cells #[.int .u8 n] 5)) := by
  have h := run_convert_bytes_back (P := Try.prog) (W.alloc (.cells #[.int .u8 n] 5)) 22 9 5 ⟨W.heap.size, 0, none⟩ 1 [UInt8.ofNat n.toNat] Try.underlying22 Try.underlying5 Try.underlying9 (fun j hj => by
    have hj0 : j = 0 := by simpa using hj
    subst hj0
    have e : (((UInt8.ofNat n.toNat).toNat : Nat) : Int) = n := by simp; omega
    simp only [List.getElem_cons_zero, e]
    have ea : (⟨W.heap.size, 0, none⟩ : Addr).add 0 = ⟨W.heap.size, 0, none⟩ := rfl
    rw [ea, World.cell?_alloc_new]
    rfl)
  exact h
def UdecRel (n : Nat) (w : World) (t s : Value) (w' : World) : Prop :=
  ∃ (u : Nat) (b : ByteArray), u ≤ n ∧ t = .int .u64 u ∧ s = .string b ∧ Below w.heap.size w w' ∧ Lib.decDigits u ++ b.data.toList = Lib.decDigits n
end Go.Proofs.Ytaebpjcigajolaa
