/-
  The contracts of Print and PrintReal, of package dec and of the document.
-/
import Derived.Test.YtaebpjcigajolaaDecUdec
import Derived.Test.YtaebpjcigajolaaFixWalks
import Derived.Test.YtaebpjcigajolaaShelf
namespace Go.Proofs.Ytaebpjcigajolaa
open Go.RowKit
open Fx Dc
theorem below_grow (w : World) (k : Nat) (os : Array Obj) : Below w.heap.size w (Sort.grow (w.drewN k) os) :=
  ⟨rfl, rfl, rfl, by simp [Sort.grow], fun i hi => by
    show (w.heap ++ os)[i]? = _
    rw [Array.getElem?_append_left hi]⟩
theorem bthen {a b c : World} (h : Below a.heap.size a b) (k : Below b.heap.size b c) : Below a.heap.size a c := h.trans (k.mono h.size)
/-- a string, by its bytes; nothing old has turned -/
def StrB (l : List UInt8) (w : World) (e : Ending) (w' : World) : Prop := ∃ s : ByteArray, e = .returned (.string s) ∧ s.data.toList = l ∧ Below w.heap.size w w'
def StrS (l : List UInt8) (w : World) (e : Ending) (w' : World) : Prop := ∃ s : ByteArray, e = .returned (.string s) ∧ s.data.toList = l ∧ w = w'
theorem same_str {s t : ByteArray} {l : List UInt8} (h : s.data.toList = l) (k : t.data.toList = l) : t = s := by
  rw [mk_list s l h, mk_list t l k]
theorem len_le {s : ByteArray} {l : List UInt8} {n : Nat} (h : s.data.toList = l) (k : l.length ≤ n) : s.size ≤ n := by rw [size_list, h]; exact k
def strLen : Value → Nat | .string b => b.size | _ => 0
def PartRel (p : Nat) (t s : Value) : Prop :=
  ∃ (j r : Nat) (b : ByteArray), j ≤ 16 ∧ r < 65536 ∧ 2 ^ j ∣ r ∧ t = .int .i64 r ∧ s = .string b ∧ b.size = j ∧ b.data.toList ++ frd (16 - j) r = frd 16 p
theorem part_next {j r : Nat} {b c : ByteArray} {p : Nat} (hj : j ≤ 16) (hr : r < 65536) (h0 : 0 < r) (hd : 2 ^ j ∣ r) (hb : b.size = j) (hl : b.data.toList ++ frd (16 - j) r = frd 16 p)
    (hc : c.data.toList = [UInt8.ofNat (48 + r * 10 / 65536)]) : j < 16 ∧ 2 ^ (j + 1) ∣ r * 10 % 65536 ∧ (b ++ c).size = j + 1 ∧ (b ++ c).data.toList ++ frd (16 - (j + 1)) (r * 10 % 65536) = frd 16 p := by
  have hj2 : j < 16 := by
    rcases Nat.lt_or_ge j 16 with h | h
    · exact h
    · obtain rfl : j = 16 := by omega
      have := pow_end r hd hr; omega
  refine ⟨hj2, pow_step j r hd hj2, ?_, ?_⟩
  · rw [size_app, hb, size_list, hc]; rfl
  · have e : 16 - j = (16 - (j + 1)) + 1 := by omega
    rw [e, frd_succ _ _ h0] at hl
    rw [data_app, hc, List.append_assoc]; exact hl
end Go.Proofs.Ytaebpjcigajolaa
