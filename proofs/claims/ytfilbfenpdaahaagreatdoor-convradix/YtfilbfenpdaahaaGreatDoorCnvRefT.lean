/-
  Which text a value of the document has, by contracts: Dec of any number, Bytes, text, Text.
-/
import Derived.Test.YtfilbfenpdaahaaGreatDoorCnvMem3
import Derived.Test.YtfilbfenpdaahaaGreatDoorDecRefPrint
import Derived.Test.YtfilbfenpdaahaaGreatDoorCnvText
import Derived.Deep.QuietTactic
import Derived.BigQuiet
namespace Go.Proofs.YtfilbfenpdaahaaGreatDoor
open Go.RowKit
open St
open Fx Dc
open Col
namespace Mm
open Cn
theorem udec_at2 (z : Int) (n : Nat) (hz : z = n) (w : World) (h : n < 18446744073709551616) :
    Calls Tryz.prog 23 #[.int .u64 z] w fun e w' => e = .returned (.string ⟨(Lib.decDigits n).toArray⟩) ∧ Below w.heap.size w w' := by
  subst hz; exact udec_any n w h
theorem refDec_below (n : Nat) (w : World) (h1 : 1 ≤ n) (h : n ≤ 9223372036854775808) :
    Calls Tryz.prog 11 #[.int .i64 (-(n : Int))] w (StrB (45 :: Lib.decDigits n) w) := by
  have hng : decide (-(n : Int) < 0) = true := decide_eq_true (by omega)
  have hlen := decDigits_len 19 n (by omega)
  have w1 : IntKind.i64.wrap (-(n : Int) + 1) = -(n : Int) + 1 := by rw [IntKind.wrap_i64]; omega
  go_enter Tryz.func11, Tryz.ntmps11
  go_wp2_with fail
  refine (udec_at2 _ n (by omega) _ (by omega)).mono ?_; rintro e w' ⟨rfl, hb⟩
  have HB := Lib.hid hb; clear hb
  have hsz : ({ data := (Lib.decDigits n).toArray } : ByteArray).size ≤ 20 := by rw [size_list]; exact hlen
  go_wp2_with fail
  go_ret
  exact ⟨_, rfl, by rw [data_app]; rfl, HB.out⟩
theorem refDec_all (n : Int) (w : World) (h0 : -9223372036854775808 ≤ n) (h1 : n ≤ 9223372036854775807) : Calls Tryz.prog 11 #[.int .i64 n] w (StrB (Lib.itoa n) w) := by
  by_cases hn : n < 0
  · obtain ⟨k, rfl⟩ : ∃ k : Nat, n = -(k : Int) := ⟨n.natAbs, by omega⟩
    rw [Lib.itoa_neg k (by omega)]
    exact refDec_below k w (by omega) (by omega)
  · obtain ⟨k, rfl⟩ : ∃ k : Nat, n = k := ⟨n.toNat, by omega⟩
    rw [Lib.itoa_nonneg]
    refine (refDec_nat k w (by omega)).mono ?_
    rintro e w' ⟨rfl, hb⟩
    exact ⟨_, rfl, by simp, hb⟩
/-- a string of the document: its bytes are all of L -/
def StrAt (w : World) (S : Nat) (L : List UInt8) : Prop := ∃ B c born, w.heap[S]? = some (strC (.slice (some ⟨B, 0, none⟩) L.length c) born) ∧ w.ownsRow 0 5 1 (.slice (some ⟨B, 0, none⟩) L.length c) L.length (L.map bv)
theorem StrAt.below {w w' : World} {S : Nat} {L : List UInt8} (h : StrAt w S L) (hb : Below w.heap.size w w') : StrAt w' S L := by
  obtain ⟨B, c, born, h1, h2⟩ := h
  exact ⟨B, c, born, (hb.block _ (Array.getElem?_eq_some_iff.1 h1).1).trans h1, owns_same h2 (fun q hq => hb.block q (owns_lt h2 hq))⟩
/-- the value's string, if it is one -/
def strOf (S : Nat) (ex : Bool) (ac : Int) (n : Int) (nm : ByteArray) (L : List UInt8) : Vl := ⟨6, ex, ac, n, nm, .pointer (some ⟨S, 0, none⟩), .pointer none, .pointer none, 0, L.length⟩
theorem src_conv {w : World} {B c : Nat} {L : List UInt8} (h : Src w (some ⟨B, 0, none⟩) L) : (convert 35 9 (.slice (some ⟨B, 0, none⟩) L.length c)).run Tryz.prog w = .ok (.string ⟨L.toArray⟩) w := by
  refine run_convert_bytes_back w 35 9 5 ⟨B, 0, none⟩ c L Tryz.underlying35 Tryz.underlying5 Tryz.underlying9 (fun j hj => ?_)
  rcases h with h | ⟨ad, e, hc⟩
  · subst h; simp at hj
  · cases e
    exact hc j _ (List.getElem?_eq_getElem hj)
/-- which text a value has; of a string it is L -/
def vtxt (v : Vl) (L : List UInt8) : List UInt8 := if v.kind = 1 then Lib.itoa v.n else if v.kind = 2 then realL v.n else if v.kind = 3 then (if v.n = 0 then sFalse else sTrue) else if v.kind = 5 ∨ v.kind = 9 then v.name.data.toList else if v.kind = 6 then L else sNone
end Mm
end Go.Proofs.YtfilbfenpdaahaaGreatDoor
