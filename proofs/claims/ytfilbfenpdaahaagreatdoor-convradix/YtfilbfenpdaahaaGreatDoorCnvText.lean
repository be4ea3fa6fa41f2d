/-
  Which text a thing has: conv.Text, by a contract.
-/
import Derived.Test.YtfilbfenpdaahaaGreatDoorStoWrite
import Derived.Test.YtfilbfenpdaahaaGreatDoorDecPrint
import Derived.Lib.ConvBytes
import Derived.Lib.SlBytesConst
namespace Go.Proofs.YtfilbfenpdaahaaGreatDoor
open Go.RowKit
open St
open Fx Dc
namespace Cn
/-- a string as bytes: a new row that has them -/
theorem s2b (w : World) (s : ByteArray) : ∃ c w2, (convert 9 35 (.string s)).run Tryz.prog w = .ok (.slice (some ⟨w.heap.size, 0, none⟩) s.size c) w2 ∧ Src w2 (some ⟨w.heap.size, 0, none⟩) s.data.toList ∧ Below w.heap.size w w2 ∧ w.heap.size < w2.heap.size := by
  refine ⟨_, _, Lib.run_convert_string_bytes w 9 35 5 s Tryz.underlying9 Tryz.underlying35 Tryz.underlying5, .inr ⟨_, rfl, fun j z hz => ?_⟩, ⟨?_, ?_, ?_, ?_, fun k hk => Lib.bytesWorld_at_old w _ s k hk⟩, ?_⟩
  · have hj : j < s.size := by have := (List.getElem?_eq_some_iff.1 hz).1; simpa using this
    rw [Addr.add_lit, Nat.zero_add, Lib.bytesWorld_cell w _ s j hj]
    have : s.data.toList.getD j 0 = z := by rw [List.getD_eq_getElem?_getD, hz]; rfl
    rw [this]; rfl
  · simp [Lib.bytesWorld, World.freeze]; rfl
  · simp [Lib.bytesWorld, World.freeze]
  · simp [Lib.bytesWorld, World.freeze]; rfl
  · rw [Lib.bytesWorld_size]; omega
  · rw [Lib.bytesWorld_size]; omega
/-- bytes in a new row, or nothing -/
def RowT (l : List UInt8) (w : World) (e : Ending) (w' : World) : Prop :=
  Below w.heap.size w w' ∧ ((l = [] ∧ e = .returned (.slice none 0 0)) ∨ ∃ B c, e = .returned (.slice (some ⟨B, 0, none⟩) l.length c) ∧ w.heap.size ≤ B ∧ B < w'.heap.size ∧ Src w' (some ⟨B, 0, none⟩) l)
def sTrue : List UInt8 := [116, 114, 117, 101]
def sFalse : List UInt8 := [102, 97, 108, 115, 101]
def sNone : List UInt8 := [45, 45, 110, 111, 115, 116, 114, 105, 110, 103, 118, 97, 108, 45, 45]
/-- which text a thing has -/
def txtL (G : List (Th × Lay)) (o : Ob) : List UInt8 :=
  if valid G o = false then [] else if o.kind = 1 then Lib.itoa o.n else if o.kind = 2 then realL o.n else if o.kind = 3 then (if o.n = 0 then sFalse else sTrue) else if o.kind = 5 ∨ o.kind = 9 then o.name.data.toList else if o.kind = 6 then bytesR G o else sNone
theorem src_none (w : World) : Src (w.alloc (.cells #[.int .u8 45, .int .u8 45, .int .u8 110, .int .u8 111, .int .u8 115, .int .u8 116, .int .u8 114, .int .u8 105, .int .u8 110, .int .u8 103, .int .u8 118, .int .u8 97, .int .u8 108, .int .u8 45, .int .u8 45] 5 (15, 16))) (some ⟨w.heap.size, 0, none⟩) sNone := by
  refine .inr ⟨_, rfl, fun j z hz => ?_⟩
  rw [Addr.add_lit, Nat.zero_add, blk_cell (heap_alloc_new w _)]
  have hj : j < 15 := (List.getElem?_eq_some_iff.1 hz).1
  have : j = 0 ∨ j = 1 ∨ j = 2 ∨ j = 3 ∨ j = 4 ∨ j = 5 ∨ j = 6 ∨ j = 7 ∨ j = 8 ∨ j = 9 ∨ j = 10 ∨ j = 11 ∨ j = 12 ∨ j = 13 ∨ j = 14 := by omega
  rcases this with rfl | rfl | rfl | rfl | rfl | rfl | rfl | rfl | rfl | rfl | rfl | rfl | rfl | rfl | rfl <;> (simp [sNone] at hz; subst hz; rfl)
theorem u8_len (l : List UInt8) : (ByteArray.mk l.toArray).data.toList = l := by simp
theorem u8_size (l : List UInt8) : (ByteArray.mk l.toArray).size = l.length := by simp [ByteArray.size]
set_option maxRecDepth 100000 in
set_option maxHeartbeats 1000000 in
theorem textC_at {O : Nat → Prop} {w : World} {s : Nat} {fr : Int} {G : List (Th × Lay)} (h : Rep O w s fr G) (o : Ob) (ht : Tab w) (hn : -9223372036854775808 ≤ o.n ∧ o.n ≤ 9223372036854775807) :
    Calls Tryz.prog 20 #[.pointer (some ⟨s, 0, none⟩), o.val] w (RowT (txtL G o) w) := by
  have h1 := h.below (below1 w (obC o))
  have HV := Lib.hid (valid_at h1 o)
  have HB := Lib.hid (fun w2 hb => bytes_at (w := w2) (h1.below hb) o)
  have HBX := Lib.hid (fun w2 (hb : Below (w.alloc (obC o)).heap.size (w.alloc (obC o)) w2) => box_at hb)
  have HT := Lib.hid (fun w2 (hb : Below w.heap.size w w2) => Tab.below ht hb)
  have HL : Hid (txtL G o = if valid G o = false then [] else if o.kind = 1 then Lib.itoa o.n else if o.kind = 2 then realL o.n else if o.kind = 3 then (if o.n = 0 then sFalse else sTrue) else if o.kind = 5 ∨ o.kind = 9 then o.name.data.toList else if o.kind = 6 then bytesR G o else sNone) := Lib.hid rfl
  unfold obC Ob.val at HV
  unfold obC at HB HBX
  unfold Ob.val at HB ⊢
  generalize txtL G o = L at *
  have H1 := Lib.hid (below1 w (obC o))
  unfold obC at H1
  clear h h1 ht
  cases hv : valid G o with
  | false =>
    rw [hv] at HV
    have HL2 := Lib.hid (by rw [HL.out, hv]; rfl : L = [])
    clear HL hv
    go_enter Tryz.func20, Tryz.ntmps20
    go_wp2_with fail
    refine HV.out.mono ?_; rintro e w2 ⟨rfl, hb⟩
    have HB2 := Lib.hid (bthen H1.out hb)
    clear hb
    go_wp2_with fail
    go_ret
    exact ⟨HB2.out, Or.inl ⟨HL2.out, rfl⟩⟩
  | true =>
    rw [hv] at HV
    have HL2 := Lib.hid (by rw [HL.out, hv]; simp only [Bool.true_eq_false, if_false] : L = if o.kind = 1 then Lib.itoa o.n else if o.kind = 2 then realL o.n else if o.kind = 3 then (if o.n = 0 then sFalse else sTrue) else if o.kind = 5 ∨ o.kind = 9 then o.name.data.toList else if o.kind = 6 then bytesR G o else sNone)
    clear HL
    by_cases k1 : o.kind = 1
    · have HL3 := Lib.hid (by rw [HL2.out, if_pos k1] : L = Lib.itoa o.n)
      rw [k1] at HV HB HBX H1 ⊢
      go_enter Tryz.func20, Tryz.ntmps20
      go_wp2_with fail
      refine HV.out.mono ?_; rintro e w2 ⟨rfl, hb⟩
      obtain ⟨x0, x1, x2, x3, x4, x5, x6, x7⟩ := cellsOb (HBX.out w2 hb)
      have HB2 := Lib.hid (bthen H1.out hb)
      have HI := Lib.hid (Tryz.strconv_Itoa o.n hn.1 hn.2 w2 (HT.out w2 HB2.out))
      clear hb
      go_wp2_with fail
      refine HI.out.mono ?_; rintro e w3 ⟨rfl, j, os, rfl⟩
      have HB3 := Lib.hid (bthen HB2.out (below_grow w2 j os))
      generalize Sort.grow (w2.drewN j) os = w3 at *
      obtain ⟨c4, w4, hc4, hs4, hb4, hl4⟩ := s2b w3 ⟨(Lib.itoa o.n).toArray⟩
      have HS := Lib.hid (And.intro hs4 (And.intro hb4 hl4))
      have HC := Lib.hid hc4
      clear hs4 hb4 hl4
      go_wp2_with fail
      go_ret
      rw [HL3.out]
      refine ⟨bthen HB3.out HS.out.2.1, Or.inr ⟨_, _, rfl, HB3.out.size, HS.out.2.2, by rw [← u8_len (Lib.itoa o.n)]; exact HS.out.1⟩⟩
    · rw [if_neg k1] at HL2
      have n1 : (o.kind == 1) = false := by simp [k1]
      by_cases k2 : o.kind = 2
      · have HL3 := Lib.hid (by rw [HL2.out, if_pos k2] : L = realL o.n)
        rw [k2] at HV HB HBX H1 n1 ⊢
        clear HL2
        go_enter Tryz.func20, Tryz.ntmps20
        go_wp2_with fail
        refine HV.out.mono ?_; rintro e w2 ⟨rfl, hb⟩
        obtain ⟨x0, x1, x2, x3, x4, x5, x6, x7⟩ := cellsOb (HBX.out w2 hb)
        have HB2 := Lib.hid (bthen H1.out hb)
        have HI := Lib.hid (decReal_any o.n w2 (HT.out w2 HB2.out))
        clear hb
        go_wp2_with fail
        refine HI.out.mono ?_; rintro e w3 ⟨t, rfl, ht, hb3⟩
        have HB3 := Lib.hid (bthen HB2.out hb3)
        obtain ⟨c4, w4, hc4, hs4, hb4, hl4⟩ := s2b w3 t
        have HS := Lib.hid (And.intro hs4 (And.intro hb4 hl4))
        have HTt := Lib.hid ht
        clear hs4 hb4 hl4 hb3 ht
        go_wp2_with fail
        go_ret
        rw [HL3.out]
        refine ⟨bthen HB3.out HS.out.2.1, Or.inr ⟨w3.heap.size, c4, ?_, HB3.out.size, HS.out.2.2, by rw [← HTt.out]; exact HS.out.1⟩⟩
        have hl : (realL o.n).length = t.size := by rw [size_list, HTt.out]
        rw [hl]; rfl
      rw [if_neg k2] at HL2
      have n2 : (o.kind == 2) = false := by simp [k2]
      by_cases k3 : o.kind = 3
      · have HL3 := Lib.hid (by rw [HL2.out, if_pos k3] : L = if o.n = 0 then sFalse else sTrue)
        rw [k3] at HV HB HBX H1 n1 n2 ⊢
        clear HL2
        have hbn : ∃ d, (o.n != 0) = d ∧ d = decide (o.n ≠ 0) := ⟨_, rfl, by by_cases h0 : o.n = 0 <;> simp [h0]⟩
        obtain ⟨d, hd, hd2⟩ := hbn
        have HI := Lib.hid (fun w => Tryz.strconv_FormatBool d w)
        have HD := Lib.hid hd2
        clear hd2
        go_enter Tryz.func20, Tryz.ntmps20
        go_wp2_with fail
        refine HV.out.mono ?_; rintro e w2 ⟨rfl, hb⟩
        obtain ⟨x0, x1, x2, x3, x4, x5, x6, x7⟩ := cellsOb (HBX.out w2 hb)
        have HB2 := Lib.hid (bthen H1.out hb)
        clear hb
        go_wp2_with fail
        refine (HI.out w2).mono ?_; rintro e w3 ⟨rfl, rfl⟩
        obtain ⟨c4, w4, hc4, hs4, hb4, hl4⟩ := s2b w3 ⟨(Lib.formatBool d).toArray⟩
        have HS := Lib.hid (And.intro hs4 (And.intro hb4 hl4))
        clear hs4 hb4 hl4
        go_wp2_with fail
        go_ret
        rw [HL3.out]
        have hl : (if o.n = 0 then sFalse else sTrue) = Lib.formatBool d := by
          rw [HD.out]
          by_cases h0 : o.n = 0 <;> simp only [h0, Lib.formatBool, sFalse, sTrue, ne_eq, not_true_eq_false, not_false_eq_true, decide_true, decide_false, if_true, if_false, Bool.false_eq_true] <;> decide +kernel
        rw [hl]
        refine ⟨bthen HB2.out HS.out.2.1, Or.inr ⟨w3.heap.size, c4, rfl, HB2.out.size, HS.out.2.2, by rw [← u8_len (Lib.formatBool d)]; exact HS.out.1⟩⟩
      rw [if_neg k3] at HL2
      have n3 : (o.kind == 3) = false := by simp [k3]
      by_cases k5 : o.kind = 5 ∨ o.kind = 9
      · have HL3 := Lib.hid (by rw [HL2.out, if_pos k5] : L = o.name.data.toList)
        clear HL2
        have hln : o.name.data.toList.length = o.name.size := by rw [← size_list]
        have HLn := Lib.hid hln
        clear hln
        rcases k5 with k5 | k5
        all_goals
          rw [k5] at HV HB HBX H1 n1 n2 n3 ⊢
          go_enter Tryz.func20, Tryz.ntmps20
          go_wp2_with fail
          refine HV.out.mono ?_; rintro e w2 ⟨rfl, hb⟩
          obtain ⟨x0, x1, x2, x3, x4, x5, x6, x7⟩ := cellsOb (HBX.out w2 hb)
          have HB2 := Lib.hid (bthen H1.out hb)
          obtain ⟨c4, w4, hc4, hs4, hb4, hl4⟩ := s2b w2 o.name
          have HS := Lib.hid (And.intro hs4 (And.intro hb4 hl4))
          clear hs4 hb4 hl4 hb
          go_wp2_with fail
          go_ret
          rw [HL3.out]
          refine ⟨bthen HB2.out HS.out.2.1, Or.inr ⟨w2.heap.size, c4, ?_, HB2.out.size, HS.out.2.2, HS.out.1⟩⟩
          rw [HLn.out]; rfl
      rw [if_neg k5] at HL2
      have n5 : (o.kind == 5) = false := by simp; omega
      have n9 : (o.kind == 9) = false := by simp; omega
      by_cases k6 : o.kind = 6
      · have HL3 := Lib.hid (by rw [HL2.out, if_pos k6] : L = bytesR G o)
        have ht6 : tld G o 6 ≠ none := by
          intro e1
          have : valid G o = false := by unfold valid; rw [if_pos (.inl k6), k6, e1]; rfl
          rw [hv] at this; cases this
        have HT6 := Lib.hid ht6
        clear HL2 ht6 k5
        rw [k6] at HV HB HBX H1 n1 n2 n3 n5 n9 ⊢
        go_enter Tryz.func20, Tryz.ntmps20
        go_wp2_with fail
        refine HV.out.mono ?_; rintro e w2 ⟨rfl, hb⟩
        obtain ⟨x0, x1, x2, x3, x4, x5, x6, x7⟩ := cellsOb (HBX.out w2 hb)
        have HB2 := Lib.hid (bthen H1.out hb)
        have HBy := Lib.hid (HB.out w2 hb)
        clear hb
        go_wp2_with fail
        refine HBy.out.mono ?_; rintro e w3 ⟨hb3, hor⟩
        rcases hor with ⟨hno, _⟩ | ⟨B, hB, _, rfl, hrow⟩
        · exact absurd hno HT6.out
        · have HB3 := Lib.hid (bthen HB2.out hb3)
          have HR := Lib.hid (And.intro hB hrow)
          clear hb3 hB hrow
          go_wp2_with fail
          go_ret
          rw [HL3.out]
          refine ⟨HB3.out, Or.inr ⟨B, _, rfl, Nat.le_trans HB2.out.size HR.out.1, (Array.getElem?_eq_some_iff.1 HR.out.2).1, .inr ⟨_, rfl, fun j z hz => ?_⟩⟩⟩
          rw [Addr.add_lit, Nat.zero_add, blk_cell HR.out.2 j]
          simp [hz]
      · rw [if_neg k6] at HL2
        have n6 : (o.kind == 6) = false := by simp [k6]
        clear k1 k2 k3 k5 k6
        go_enter Tryz.func20, Tryz.ntmps20
        go_wp2_with fail
        refine HV.out.mono ?_; rintro e w2 ⟨rfl, hb⟩
        obtain ⟨x0, x1, x2, x3, x4, x5, x6, x7⟩ := cellsOb (HBX.out w2 hb)
        have HB2 := Lib.hid (bthen H1.out hb)
        have hcc := Lib.run_convert_bytes_const (P := Tryz.prog) w2 35 5 #[.int .u8 45, .int .u8 45, .int .u8 110, .int .u8 111, .int .u8 115, .int .u8 116, .int .u8 114, .int .u8 105, .int .u8 110, .int .u8 103, .int .u8 118, .int .u8 97, .int .u8 108, .int .u8 45, .int .u8 45] 15 15 Tryz.underlying35 Tryz.underlying5
        simp only [List.size_toArray, List.length_cons, List.length_nil, Nat.zero_add, Nat.reduceAdd] at hcc
        clear hb
        go_wp2_with fail
        go_ret
        rw [HL2.out]
        exact ⟨bthen HB2.out (below1 _ _), Or.inr ⟨w2.heap.size, _, rfl, HB2.out.size, by simp, src_none w2⟩⟩
end Cn
end Go.Proofs.YtfilbfenpdaahaaGreatDoor
