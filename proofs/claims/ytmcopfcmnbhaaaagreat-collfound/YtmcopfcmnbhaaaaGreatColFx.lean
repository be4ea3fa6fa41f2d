/-
  Bytes of a block as a string; three parts of a text, one behind the other.
-/
import Derived.Test.YtmcopfcmnbhaaaaGreatColSl
import Derived.Laws.Concat
namespace Go.Proofs.YtmcopfcmnbhaaaaGreat
open Go.RowKit
open St
namespace Col
theorem blk_str {w : World} {B : Nat} {l : List UInt8} (h : w.heap[B]? = some (.cells (l.map bv).toArray 5 (0, 0))) (n : Nat) (hn : l.length = n) (q : Nat) : (convert 36 9 (.slice (some ⟨B, 0, none⟩) n n)).run Tryz.prog (w.drewN q) = .ok (.string ⟨l.toArray⟩) (w.drewN q) := by
  subst hn
  have := conv_part (w := w.drewN q) (b := B) (o := 0) (c := l.length) (i := 0) (n := l.length) (l := l) (fun j z hz => by
    have e : (w.drewN q).cell? ⟨B, 0 + j, none⟩ = w.cell? ⟨B, 0 + j, none⟩ := rfl
    rw [e, Nat.zero_add, blk_cell h j]
    simp [hz]) (by omega)
  simpa using this
theorem ba_ne {a b : ByteArray} (h : a ≠ b) : (a.toList == b.toList) = false := by
  rw [ByteArray.toList_eq, ByteArray.toList_eq]
  obtain ⟨⟨x⟩⟩ := a
  obtain ⟨⟨y⟩⟩ := b
  have : x ≠ y := fun e => h (by rw [e])
  simpa using this
theorem cat_of (a b c : ByteArray) (e : a ++ b = c) (h : a.size + b.size ≤ 9223372036854775807) : ∀ W : World, (Op.stringOp .add a b).run Tryz.prog W = .ok (.string c) W := fun W => by rw [← e]; exact run_string_add_sum W a b h
theorem three_join (T P : List UInt8) (i : Nat) (e : (T.drop i).take P.length = P) : (⟨(T.take i).toArray⟩ : ByteArray) ++ ⟨P.toArray⟩ ++ ⟨((T.drop (i + P.length)).take (T.length - (i + P.length))).toArray⟩ = ⟨T.toArray⟩ := by
  have h1 : (T.drop (i + P.length)).take (T.length - (i + P.length)) = T.drop (i + P.length) := List.take_of_length_le (by rw [List.length_drop]; exact Nat.le_refl _)
  have h2 : T.take i ++ (P ++ T.drop (i + P.length)) = T := by
    have h3 : P ++ T.drop (i + P.length) = T.drop i := by
      have := List.take_append_drop P.length (T.drop i)
      rwa [e, List.drop_drop] at this
    rw [h3, List.take_append_drop]
  rw [h1]
  apply ByteArray.ext
  simp only [ByteArray.data_append, List.append_toArray, List.append_assoc, h2]
theorem _root_.Go.RowKit.Below.drews2 {B : Nat} {w w' : World} (h : Below B w w') (n : Nat) : Below B w (w'.drewN n) := ⟨h.os, h.tape, h.output, h.size, h.block⟩
end Col
end Go.Proofs.YtmcopfcmnbhaaaaGreat
