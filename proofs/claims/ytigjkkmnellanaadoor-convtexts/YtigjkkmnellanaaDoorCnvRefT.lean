/-
  Which text a value of the document has, by contracts: Dec of any number, Bytes, text, Text.
-/
import Derived.Test.YtigjkkmnellanaaDoorCnvMem3
import Derived.Test.YtigjkkmnellanaaDoorDecRefPrint
import Derived.Test.YtigjkkmnellanaaDoorCnvText
import Derived.Deep.QuietTactic
import Derived.BigQuiet
namespace Go.Proofs.YtigjkkmnellanaaDoor
open Go.RowKit
open St
open Fx Dc
open Col
namespace Mm
open Cn
theorem udec_at2 (z : Int) (n : Nat) (hz : z = n) (w : World) (h : n < 18446744073709551616) :
    Calls Tryd.prog 34 #[.int .u64 z] w fun e w' => e = .returned (.string ⟨(Lib.decDigits n).toArray⟩) ∧ Below w.heap.size w w' := by
  subst hz; exact udec_any n w h
theorem refDec_below (n : Nat) (w : World) (h1 : 1 ≤ n) (h : n ≤ 9223372036854775808) :
    Calls Tryd.prog 21 #[.int .i64 (-(n : Int))] w (StrB (45 :: Lib.decDigits n) w) := by
  have hng : decide (-(n : Int) < 0) = true := decide_eq_true (by omega)
  have hlen := decDigits_len 19 n (by omega)
  have w1 : IntKind.i64.wrap (-(n : Int) + 1) = -(n : Int) + 1 := by rw [IntKind.wrap_i64]; omega
  go_enter Tryd.func21, Tryd.ntmps21
  go_wp2_with fail
  refine (udec_at2 _ n (by omega) _ (by omega)).mono ?_; rintro e w' ⟨rfl, hb⟩
  have HB := Lib.hid hb; clear hb
  have hsz : ({ data := (Lib.decDigits n).toArray } : ByteArray).size ≤ 20 := by rw [size_list]; exact hlen
  go_wp2_with fail
  go_ret
  exact ⟨_, rfl, by rw [data_app]; rfl, HB.out⟩
theorem refDec_all (n : Int) (w : World) (h0 : -9223372036854775808 ≤ n) (h1 : n ≤ 9223372036854775807) : Calls Tryd.prog 21 #[.int .i64 n] w (StrB (Lib.itoa n) w) := by
  by_cases hn : n < 0
  · obtain ⟨k, rfl⟩ : ∃ k : Nat, n = -(k : Int) := ⟨n.natAbs, by omega⟩
    rw [Lib.itoa_neg k (by omega)]
    exact refDec_below k w (by omega) (by omega)
  · obtain ⟨k, rfl⟩ : ∃ k : Nat, n = k := ⟨n.toNat, by omega⟩
    rw [Lib.itoa_nonneg]
    refine (refDec_nat k w (by omega)).mono ?_
    rintro e w' ⟨rfl, hb⟩
    exact ⟨_, rfl, by simp, hb⟩
/-- a string of the document: its bytes are all of L -/
def StrAt (w : World) (S : Nat) (L : List UInt8) : Prop := ∃ B c born, w.heap[S]? = some (strC (.slice (some ⟨B, 0, none⟩) L.length c) born) ∧ w.ownsRow 0 5 1 (.slice (some ⟨B, 0, none⟩) L.length c) L.length (L.map bv)
theorem StrAt.below {w w' : World} {S : Nat} {L : List UInt8} (h : StrAt w S L) (hb : Below w.heap.size w w') : StrAt w' S L := by
  obtain ⟨B, c, born, h1, h2⟩ := h
  exact ⟨B, c, born, (hb.block _ (Array.getElem?_eq_some_iff.1 h1).1).trans h1, owns_same h2 (fun q hq => hb.block q (owns_lt h2 hq))⟩
/-- the value's string, if it is one -/
def strOf (S : Nat) (ex : Bool) (ac : Int) (n : Int) (nm : ByteArray) (L : List UInt8) : Vl := ⟨6, ex, ac, n, nm, .pointer (some ⟨S, 0, none⟩), .pointer none, .pointer none, 0, L.length⟩
set_option maxRecDepth 100000 in
theorem vbytes_at {w : World} {S : Nat} {L : List UInt8} (h : StrAt w S L) (ex : Bool) (ac n : Int) (nm : ByteArray) (hL : L.length ≤ 100000000) :
    Calls Tryd.prog 37 #[(strOf S ex ac n nm L).val] w fun e w' => ∃ B c, e = .returned (.slice (some ⟨B, 0, none⟩) L.length c) ∧ Src w' (some ⟨B, 0, none⟩) L ∧ Below w.heap.size w w' := by
  obtain ⟨B, c, born, h1, h2⟩ := h
  have hb1 := below1 w (vlC (strOf S ex ac n nm L))
  have hc : L.length ≤ c := by
    rcases h2.2 with ⟨e0, _⟩ | ⟨g, cap, cur, e0, _, _, hnc, _⟩
    · cases e0
    · cases e0; exact hnc
  have hcm : c ≤ 9223372036854775807 := by
    rcases h2.2 with ⟨e0, _⟩ | ⟨g, cap, cur, e0, _, _, hnc, hm, _⟩
    · cases e0
    · cases e0; have : c ≤ maxLen := hm; unfold maxLen at this; omega
  have hs0 : w.cell? ⟨S, 0, none⟩ = some (.slice (some ⟨B, 0, none⟩) L.length c) := blk_cell h1 0
  have hSlt : S < w.heap.size := (Array.getElem?_eq_some_iff.1 h1).1
  have hsrc : Src (w.alloc (vlC (strOf S ex ac n nm L))) (some ⟨B, 0, none⟩) L := (src_own h2 rfl).below hb1
  have HS := Lib.hid hsrc
  have HB := Lib.hid hb1
  unfold vlC strOf at HS HB
  unfold strOf Vl.val
  clear h1 h2 hb1 hsrc
  go_enter Tryd.func37, Tryd.ntmps37
  go_wp2_with fail
  go_quiet (fail)
  all_goals go_wp2_with fail
  go_ret
  exact ⟨B, c, by simp, HS.out.below (below_draw (Below.refl _ _) _), bthen HB.out (below_draw (Below.refl _ _) _)⟩
theorem src_conv {w : World} {B c : Nat} {L : List UInt8} (h : Src w (some ⟨B, 0, none⟩) L) : (convert 44 9 (.slice (some ⟨B, 0, none⟩) L.length c)).run Tryd.prog w = .ok (.string ⟨L.toArray⟩) w := by
  refine run_convert_bytes_back w 44 9 5 ⟨B, 0, none⟩ c L Tryd.underlying44 Tryd.underlying5 Tryd.underlying9 (fun j hj => ?_)
  rcases h with h | ⟨ad, e, hc⟩
  · subst h; simp at hj
  · cases e
    exact hc j _ (List.getElem?_eq_getElem hj)
set_option maxRecDepth 100000 in
theorem vtext_str {w : World} {S : Nat} {L : List UInt8} (h : StrAt w S L) (ex : Bool) (ac n : Int) (nm : ByteArray) (hL : L.length ≤ 100000000) :
    Calls Tryd.prog 23 #[(strOf S ex ac n nm L).val] w (StrB L w) := by
  have hb1 := below1 w (vlC (strOf S ex ac n nm L))
  have HY := Lib.hid (vbytes_at (h.below hb1) ex ac n nm hL)
  have HB := Lib.hid hb1
  unfold vlC strOf at HY HB
  unfold strOf Vl.val at *
  clear h hb1
  go_enter Tryd.func23, Tryd.ntmps23
  go_wp2_with fail
  refine HY.out.mono ?_; rintro e w2 ⟨B, c, rfl, hs, hb⟩
  have hcv := src_conv (c := c) hs
  have HB2 := Lib.hid (bthen HB.out hb)
  clear hs hb
  go_wp2_with fail
  go_ret
  exact ⟨_, rfl, by simp, HB2.out⟩
/-- which text a value has; of a string it is L -/
def vtxt (v : Vl) (L : List UInt8) : List UInt8 := if v.kind = 1 then Lib.itoa v.n else if v.kind = 2 then realL v.n else if v.kind = 3 then (if v.n = 0 then sFalse else sTrue) else if v.kind = 5 ∨ v.kind = 9 then v.name.data.toList else if v.kind = 6 then L else sNone
set_option maxRecDepth 100000 in
set_option maxHeartbeats 1000000 in
theorem refText_plain (w : World) (v : Vl) (h6 : v.kind ≠ 6) (hn : v.kind = 1 → -9223372036854775808 ≤ v.n ∧ v.n ≤ 9223372036854775807) : Calls Tryd.prog 8 #[v.val] w (StrB (vtxt v []) w) := by
  have HB := Lib.hid (below1 w (vlC v))
  have HL : Hid (vtxt v [] = if v.kind = 1 then Lib.itoa v.n else if v.kind = 2 then realL v.n else if v.kind = 3 then (if v.n = 0 then sFalse else sTrue) else if v.kind = 5 ∨ v.kind = 9 then v.name.data.toList else if v.kind = 6 then [] else sNone) := Lib.hid rfl
  generalize vtxt v [] = L at *
  unfold vlC at HB
  unfold Vl.val
  obtain ⟨kd, ex, ac, n, nm, vs, va, vd, fm, ln⟩ := v
  simp only at h6 hn HL
  by_cases k1 : kd = 1
  · subst k1
    have HI := Lib.hid (fun w => refDec_all n w (hn rfl).1 (hn rfl).2)
    clear hn
    have HL2 := Lib.hid (by rw [HL.out, if_pos rfl] : L = Lib.itoa n)
    clear HL
    go_enter Tryd.func8, Tryd.ntmps8
    go_wp2_with fail
    refine (HI.out _).mono ?_; rintro e w2 ⟨t, rfl, ht, hb⟩
    have HB2 := Lib.hid (bthen HB.out hb)
    have HT := Lib.hid ht
    clear hb ht
    go_wp2_with fail
    go_ret
    exact ⟨t, rfl, by rw [HL2.out]; exact HT.out, HB2.out⟩
  rw [if_neg k1] at HL
  have n1 : (kd == 1) = false := by simp [k1]
  by_cases k2 : kd = 2
  · subst k2
    have HI := Lib.hid (fun w => refReal_any n w)
    have HL2 := Lib.hid (by rw [HL.out, if_pos rfl] : L = realL n)
    clear HL
    go_enter Tryd.func8, Tryd.ntmps8
    go_wp2_with fail
    refine (HI.out _).mono ?_; rintro e w2 ⟨t, rfl, ht, hb⟩
    have HB2 := Lib.hid (bthen HB.out hb)
    have HT := Lib.hid ht
    clear hb ht
    go_wp2_with fail
    go_ret
    exact ⟨t, rfl, by rw [HL2.out]; exact HT.out, HB2.out⟩
  rw [if_neg k2] at HL
  have n2 : (kd == 2) = false := by simp [k2]
  by_cases k3 : kd = 3
  · subst k3
    rw [if_pos rfl] at HL
    by_cases h0 : n = 0
    · subst h0
      have HL2 := Lib.hid (by rw [HL.out, if_pos rfl] : L = sFalse)
      clear HL
      go_enter Tryd.func8, Tryd.ntmps8
      go_wp2_with fail
      go_ret
      exact ⟨_, rfl, by rw [HL2.out]; rfl, HB.out⟩
    · have HL2 := Lib.hid (by rw [HL.out, if_neg h0] : L = sTrue)
      have g0 : (n != 0) = true := by simp [h0]
      clear HL
      go_enter Tryd.func8, Tryd.ntmps8
      go_wp2_with fail
      go_ret
      exact ⟨_, rfl, by rw [HL2.out]; rfl, HB.out⟩
  rw [if_neg k3] at HL
  have n3 : (kd == 3) = false := by simp [k3]
  by_cases k5 : kd = 5 ∨ kd = 9
  · have HL2 := Lib.hid (by rw [HL.out, if_pos k5] : L = nm.data.toList)
    clear HL
    rcases k5 with rfl | rfl
    all_goals
      go_enter Tryd.func8, Tryd.ntmps8
      go_wp2_with fail
      go_ret
      exact ⟨_, rfl, HL2.out.symm, HB.out⟩
  rw [if_neg k5, if_neg h6] at HL
  have n5 : (kd == 5) = false := by simp; omega
  have n9 : (kd == 9) = false := by simp; omega
  have n6 : (kd == 6) = false := by simp [h6]
  have HL2 := Lib.hid HL.out
  clear HL k1 k2 k3 k5 h6
  go_enter Tryd.func8, Tryd.ntmps8
  go_wp2_with fail
  go_ret
  exact ⟨_, rfl, by rw [HL2.out]; rfl, HB.out⟩
set_option maxRecDepth 100000 in
theorem refText_str {w : World} {S : Nat} {L : List UInt8} (h : StrAt w S L) (ex : Bool) (ac n : Int) (nm : ByteArray) (hL : L.length ≤ 100000000) :
    Calls Tryd.prog 8 #[(strOf S ex ac n nm L).val] w (StrB L w) := by
  have hb1 := below1 w (vlC (strOf S ex ac n nm L))
  have HY := Lib.hid (vtext_str (h.below hb1) ex ac n nm hL)
  have HB := Lib.hid hb1
  unfold vlC strOf at HY HB
  unfold strOf Vl.val at *
  clear h hb1
  go_enter Tryd.func8, Tryd.ntmps8
  go_wp2_with fail
  refine HY.out.mono ?_; rintro e w2 ⟨t, rfl, ht, hb⟩
  have HB2 := Lib.hid (bthen HB.out hb)
  have HT := Lib.hid ht
  clear hb ht
  go_wp2_with fail
  go_ret
  exact ⟨t, rfl, HT.out, HB2.out⟩
end Mm
end Go.Proofs.YtigjkkmnellanaaDoor
