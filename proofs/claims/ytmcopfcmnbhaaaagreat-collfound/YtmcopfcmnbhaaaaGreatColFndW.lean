/-
  The law CollFound, walked.
-/
import Derived.Test.YtmcopfcmnbhaaaaGreatColDoS
import Derived.Test.YtmcopfcmnbhaaaaGreatColAns
import Derived.Test.YtmcopfcmnbhaaaaGreatColFx
import Derived.Test.YtmcopfcmnbhaaaaGreatStoEnt
import Derived.OwnWalk
namespace Go.Proofs.YtmcopfcmnbhaaaaGreat
open Go.RowKit
open St
open Stk
namespace Col
def strO (r L : Int) : Ob := ⟨6, false, 0, 0, ⟨#[]⟩, r, 0, L⟩
def thB (b : List UInt8) : Th := ⟨6, b, [], [], 0, 0⟩
/-- a new thing: its blocks are one's own, too -/
theorem BR.up {O : Nat → Prop} {w0 w w' : World} {l : List (Nat × Obj)} {s : Nat} {fr fr' : Int} {G G' : List (Th × Lay)} (h : BR O w0 l s fr G w) (hF : Frm O w w') (hR : Rep (Up O w w') w' s fr' G') : BR (Up O w w') w0 l s fr' G' w' := by
  have h1 := h.1.frm hF
  refine ⟨⟨h1.1.mono (fun k _ e => .inl e), fun p hp => ⟨fun e => ?_, (h1.2 p hp).2⟩⟩, hR⟩
  rcases e with e | e
  · exact (h1.2 p hp).1 e
  · have := (Array.getElem?_eq_some_iff.1 (h.1.2 p hp).2).1; omega
theorem tldS0 (T P : List UInt8) (l1 l2 : Lay) : tld [(thB T, l1), (thB P, l2)] (strO 1 T.length) 6 = some 0 := by simp [tld, strO, thB, Th.length, liesB]
theorem tldS1 (T P : List UInt8) (l1 l2 : Lay) : tld [(thB T, l1), (thB P, l2)] (strO 2 P.length) 6 = some 1 := by simp [tld, strO, thB, Th.length, liesB]
theorem bytesS0 (T P : List UInt8) (l1 l2 : Lay) : bytesR [(thB T, l1), (thB P, l2)] (strO 1 T.length) = T := by unfold bytesR; rw [tldS0]; simp [strO, thB]
theorem bytesS1 (T P : List UInt8) (l1 l2 : Lay) : bytesR [(thB T, l1), (thB P, l2)] (strO 2 P.length) = P := by unfold bytesR; rw [tldS1]; simp [strO, thB]
/-- a part of the text's object -/
def strP (f n : Int) : Ob := ⟨6, false, 0, 0, ⟨#[]⟩, 1, f, n⟩
theorem tldP (T P : List UInt8) (l1 l2 : Lay) (f n : Nat) (h : f + n ≤ T.length) : tld [(thB T, l1), (thB P, l2)] (strP f n) 6 = some 0 := by
  simp [tld, strP, thB, Th.length, liesB]
  omega
theorem bytesP (T P : List UInt8) (l1 l2 : Lay) (f n : Nat) (h : f + n ≤ T.length) : bytesR [(thB T, l1), (thB P, l2)] (strP f n) = (T.drop f).take n := by unfold bytesR; rw [tldP T P l1 l2 f n h]; simp [strP, thB]
theorem bytes_part {O : Nat → Prop} {w : World} {s : Nat} {fr : Int} {T P : List UInt8} {l1 l2 : Lay} (h : Rep O w s fr [(thB T, l1), (thB P, l2)]) (f n : Nat) (hf : f + n ≤ T.length) :
    Calls Tryz.prog 14 #[.pointer (some ⟨s, 0, none⟩), .agg #[.int .i64 6, .bool false, .int .i64 0, .int .i64 0, .string ⟨#[]⟩, .int .i64 1, .int .i64 (f : Int), .int .i64 (n : Int)]] w fun e w' => ∃ B, e = .returned (.tuple #[.slice (some ⟨B, 0, none⟩) n n, .int .i64 0]) ∧ w'.heap[B]? = some (.cells (((T.drop f).take n).map bv).toArray 5 (0, 0)) ∧ Below w.heap.size w w' := by
  refine (bytes_ok h (strP f n) 0 (tldP T P l1 l2 f n hf)).mono ?_
  rintro e w' ⟨B, rfl, hn, hb⟩
  rw [bytesP T P l1 l2 f n hf] at hn ⊢
  have hl : ((T.drop f).take n).length = n := by rw [List.length_take, List.length_drop]; omega
  rw [hl]
  exact ⟨B, rfl, hn.2, hb⟩
set_option maxRecDepth 1000000 in
set_option maxHeartbeats 4000000 in
theorem found_walk (ta pa : Option Addr) (tc pc : Nat) (T P : List UInt8) (w : World) (hT : Src w ta T) (hP : Src w pa P) (hta : ta = none → tc = 0) (hpa : pa = none → pc = 0) (htc : T.length ≤ tc) (hI : IdxAt w) :
    Calls Tryz.prog 4 #[.slice ta T.length tc, .slice pa P.length pc] w fun e w' => e = .returned (.bool true) ∧ Below w.heap.size w w' := by
  have HN := Lib.hid (new_at 10000 w (by decide) (by decide))
  have HA := Lib.hid answers09
  have HT := Lib.hid (fun w2 (hb : Below w.heap.size w w2) => (hT.below hb : Src w2 ta T))
  have HP := Lib.hid (fun w2 (hb : Below w.heap.size w w2) => (hP.below hb : Src w2 pa P))
  have HC := Lib.hid (And.intro hta hpa)
  have HI := Lib.hid hI
  clear hT hP hta hpa hI
  by_cases hlT : 2000 < T.length
  · as_aux_lemma =>
      have g1 : decide ((2000 : Int) < (T.length : Int)) = true := decide_eq_true (by omega)
      go_enter Tryz.func4, Tryz.ntmps4
      go_wp2_with fail
      refine HN.out.mono ?_; rintro e w1 ⟨rfl, hr1, hb1⟩
      have HB1 := Lib.hid hb1
      clear hr1 hb1
      go_wp2_with fail
      refine (HA.out _).mono ?_; rintro e w2 ⟨rfl, hb2⟩
      have HB2 := Lib.hid (bthen HB1.out hb2)
      clear hb2
      go_wp2_with fail
      refine (HA.out _).mono ?_; rintro e w3 ⟨rfl, hb3⟩
      have HB3 := Lib.hid (bthen HB2.out hb3)
      clear hb3
      go_wp2_with fail
      go_ret
      exact ⟨rfl, HB3.out⟩
  by_cases hlP : 2000 < P.length
  · as_aux_lemma =>
      have g1 : decide ((2000 : Int) < (T.length : Int)) = false := decide_eq_false (by omega)
      have g2 : decide ((2000 : Int) < (P.length : Int)) = true := decide_eq_true (by omega)
      go_enter Tryz.func4, Tryz.ntmps4
      go_wp2_with fail
      refine HN.out.mono ?_; rintro e w1 ⟨rfl, hr1, hb1⟩
      have HB1 := Lib.hid hb1
      clear hr1 hb1
      go_wp2_with fail
      refine (HA.out _).mono ?_; rintro e w2 ⟨rfl, hb2⟩
      have HB2 := Lib.hid (bthen HB1.out hb2)
      clear hb2
      go_wp2_with fail
      refine (HA.out _).mono ?_; rintro e w3 ⟨rfl, hb3⟩
      have HB3 := Lib.hid (bthen HB2.out hb3)
      clear hb3
      go_wp2_with fail
      go_ret
      exact ⟨rfl, HB3.out⟩
  have g1 : decide ((2000 : Int) < (T.length : Int)) = false := decide_eq_false (by omega)
  have g2 : decide ((2000 : Int) < (P.length : Int)) = false := decide_eq_false (by omega)
  go_enter Tryz.func4, Tryz.ntmps4
  go_wp2_with fail
  refine HN.out.mono ?_; rintro e w1 ⟨rfl, hr1, hb1⟩
  have HB1 := Lib.hid hb1
  have HR1 := Lib.hid hr1
  clear hr1 hb1
  go_wp2_with fail
  refine (HA.out _).mono ?_; rintro e w2 ⟨rfl, hb2⟩
  have HB2 := Lib.hid (bthen HB1.out hb2)
  have HR2 := Lib.hid (HR1.out.below hb2)
  clear hb2 HB1 HR1
  obtain ⟨B3, c3, w3, hrun3, hb3, hB3, hown3⟩ := copied5 (c := tc) (HT.out w2 HB2.out) HC.out.1 (by omega) 36
  have HRun3 := Lib.hid hrun3
  have HB3 := Lib.hid (bthen HB2.out hb3)
  have HM3 := Lib.hid (text_at (c := c3) (HR2.out.below hb3) (src_own hown3 rfl))
  clear hrun3 hb3 hown3 HR2
  go_wp2_with (at_builtin; refine wpList_append_run5 rfl (.tmp 48) (.tmp 49) 36 36 (.slice (some ⟨B3, 0, none⟩) T.length c3) rfl rfl _ _ rfl rfl HRun3.out ?_)
  refine HM3.out.mono ?_; rintro e w4 hM
  rcases hM with ⟨hne, _⟩ | ⟨_, rfl, l1, hr4, hF4⟩
  · exact absurd (by unfold clm mostI cellsI; simp; omega) hne
  rw [List.nil_append, show (⟨6, T, [], [], 0, 0⟩ : Th) = thB T from rfl] at hr4
  have hno : newOb (thB T) (List.length ([] : List (Th × Lay))) = strO 1 T.length := by simp [newOb, strO, thB, Th.length]
  rw [show (⟨6, T, [], [], 0, 0⟩ : Th) = thB T from rfl, hno]
  have hb4 : Below w.heap.size w w4 := HB3.out.trans (frm_low hF4 (B := w.heap.size) HB3.out.size (fun k hk => by rw [hk]; exact Nat.le_refl _))
  have hlo4 : ∀ q, Up (fun k => k = w.heap.size) w3 w4 q → w.heap.size ≤ q := fun q hq => by
    rcases hq with e | e
    · rw [e]; exact Nat.le_refl _
    · have := HB3.out.size; omega
  have hbr4 : BR _ w [] w.heap.size _ _ w4 := ⟨⟨Frm.of_below hb4, fun p hp => by cases hp⟩, hr4⟩
  clear hno hF4 hr4 HM3 hb4
  generalize Up (fun k => k = w.heap.size) w3 w4 = O4 at hbr4 hlo4
  generalize hfr4 : (10000 : Int) - cellsI 6 T.length = fr4 at hbr4
  have hfr4b : 9000 ≤ fr4 := by rw [← hfr4]; unfold cellsI; simp; omega
  clear hfr4
  have hbr5 := hbr4.alloc (obC (strO 1 T.length))
  have hb5 : Below w.heap.size w (w4.alloc (obC (strO 1 T.length))) := hbr5.1.1.below (Nat.le_refl _) (fun k hk e => by have := hlo4 k e; omega)
  obtain ⟨B6, c6, w6, hrun6, hb6, hB6, hown6⟩ := copied5 (c := pc) (HP.out _ hb5) HC.out.2 (by omega) 36
  have hbr6 := hbr5.below hb6
  rw [show (w4.alloc (obC (strO 1 T.length))).heap.size = w4.heap.size + 1 by simp] at hrun6
  have HRun6 := Lib.hid hrun6
  have HM6 := Lib.hid (text_at (c := c6) hbr6.2 (src_own hown6 rfl))
  have HBr6 := Lib.hid hbr6
  have HLo := Lib.hid hlo4
  unfold obC strO at HRun6 HBr6
  unfold strO Ob.val
  clear hrun6 hb6 hown6 hbr4 hbr5 hb5 hbr6 hlo4
  go_wp2_with (at_builtin; refine wpList_append_run5 rfl (.tmp 56) (.tmp 57) 36 36 (.slice (some ⟨B6, 0, none⟩) P.length c6) rfl rfl _ _ rfl rfl HRun6.out ?_)
  refine HM6.out.mono ?_; rintro e w7 hM
  rcases hM with ⟨hne, _⟩ | ⟨_, rfl, l2, hr7, hF7⟩
  · exact absurd (by unfold clm mostI cellsI; simp; omega) hne
  rw [show (⟨6, P, [], [], 0, 0⟩ : Th) = thB P from rfl, List.singleton_append] at hr7
  have hno : newOb (thB P) (List.length ([] ++ [(thB T, l1)])) = strO 2 P.length := by simp [newOb, strO, thB, Th.length]
  rw [show (⟨6, P, [], [], 0, 0⟩ : Th) = thB P from rfl]
  rw [show newOb (thB P) (List.length [(thB T, l1)]) = strO 2 P.length by simp [newOb, strO, thB, Th.length]]
  have hbr7 := HBr6.out.up hF7 hr7
  have hlo7 : ∀ q, Up O4 w6 w7 q → w.heap.size ≤ q := fun q hq => by
    rcases hq with e | e
    · exact HLo.out q e
    · have := HBr6.out.1.1.size; omega
  clear hno hF7 hr7 HM6
  generalize Up O4 w6 w7 = O7 at hbr7 hlo7
  generalize fr4 - cellsI 6 P.length = fr7 at hbr7
  have hbr8 := hbr7.alloc (obC (strO 2 P.length))
  have hb9 := below1 (w7.alloc (obC (strO 2 P.length))) (.cells #[.int .i64 6, .bool false, .int .i64 0, .int .i64 0, .string ⟨#[]⟩, .int .i64 1, .int .i64 0, .int .i64 (T.length : Int), .int .i64 6, .bool false, .int .i64 0, .int .i64 0, .string ⟨#[]⟩, .int .i64 2, .int .i64 0, .int .i64 (P.length : Int)] 41)
  have hsrc : SrcO ((w7.alloc (obC (strO 2 P.length))).alloc (.cells #[.int .i64 6, .bool false, .int .i64 0, .int .i64 0, .string ⟨#[]⟩, .int .i64 1, .int .i64 0, .int .i64 (T.length : Int), .int .i64 6, .bool false, .int .i64 0, .int .i64 0, .string ⟨#[]⟩, .int .i64 2, .int .i64 0, .int .i64 (P.length : Int)] 41)) (some ⟨w7.heap.size + 1, 0, none⟩) [strO 1 T.length, strO 2 P.length] := .inr ⟨_, rfl, fun j z hz => by
    rw [Addr.add_lit, Nat.zero_add, blk_cell (alloc_at (W := w7.alloc (obC (strO 2 P.length))) (k := w7.heap.size + 1) (by simp)) j, ← hz]
    simp [Ob.cells, strO]⟩
  have hbr9 := hbr8.below hb9
  have hbW : Below w.heap.size w ((w7.alloc (obC (strO 2 P.length))).alloc (.cells #[.int .i64 6, .bool false, .int .i64 0, .int .i64 0, .string ⟨#[]⟩, .int .i64 1, .int .i64 0, .int .i64 (T.length : Int), .int .i64 6, .bool false, .int .i64 0, .int .i64 0, .string ⟨#[]⟩, .int .i64 2, .int .i64 0, .int .i64 (P.length : Int)] 41)) := hbr9.1.1.below (Nat.le_refl _) (fun k hk e => by have := hlo7 k e; omega)
  have hD := doSearch (c := 2) hbr9.2 (HI.out.below hbW) (strO 1 T.length) (strO 2 P.length) 0 1 hsrc (tldS0 T P l1 l2) (tldS1 T P l1 l2) (.inl rfl) (.inl rfl) (by rw [bytesS0]; rfl) (by rw [bytesS0]; omega) (by rw [bytesS1]; omega)
  rw [bytesS0, bytesS1] at hD
  have HD := Lib.hid hD
  have HBr9 := Lib.hid hbr9
  have HLo7 := Lib.hid hlo7
  obtain ⟨x0, x1, x2, x3, x4, x5, x6, x7⟩ := cellsOb hbr8.1.b1
  have lt4 : w4.heap.size < w7.heap.size := (Array.getElem?_eq_some_iff.1 hbr7.1.b0).1
  unfold strO Ob.val
  unfold obC strO at x0 x1 x2 x3 x4 x5 x6 x7 HBr9
  unfold sSrch obC strO at HD
  clear hsrc hbr9 hbW hD hbr8 hb9 hbr7 hlo7
  go_wp2_with fail
  refine HD.out.mono ?_; rintro e w9 ⟨hF9, p, rfl, hh, hr9⟩
  have hbr10 := HBr9.out.put hF9 hr9
  have HBr10 := Lib.hid hbr10
  have HH := Lib.hid hh
  clear hF9 hh hr9 hbr10 HBr9 x0 x1 x2 x3 x4 x5 x6 x7
  rcases index_spec T P with ⟨hneg, hno⟩ | ⟨i, hpos, hle, hat, hno⟩
  · as_aux_lemma =>
      rw [show (srchL ⟨6, false, 0, 0, ⟨#[]⟩, 1, 0, (T.length : Int)⟩ T P).length = 2 by unfold srchL; rw [hneg, if_pos (by omega)]; rfl]
      have HNo := Lib.hid (And.intro hneg hno)
      clear hneg hno
      go_wp2_with fail
      have hbw9 : Below w.heap.size w w9 := HBr10.out.1.1.below (Nat.le_refl _) (fun k hk e => by have := HLo7.out k e; omega)
      have HBw9 := Lib.hid hbw9
      have HT9 := Lib.hid (HT.out w9 hbw9)
      have HP9 := Lib.hid (HP.out w9 hbw9)
      clear hbw9
      go_loopw [13, 14] (fun va vi wr => ∃ i : Nat, va = .int .i64 (-1) ∧ vi = .int .i64 i ∧ i ≤ T.length + 1 ∧ ∃ q, wr = w9.drewN q) (fun _ v _ => T.length + 1 - (intOf v).toNat)
      case atStart => exact ⟨0, rfl, rfl, Nat.zero_le _, 0, rfl⟩
      case round =>
        obtain ⟨i, rfl, rfl, hi, q, rfl⟩ := hrel
        by_cases hin : i + P.length ≤ T.length
        · as_aux_lemma =>
            have h1 : decide ((i : Int) + (P.length : Int) ≤ (T.length : Int)) = true := decide_eq_true (by omega)
            have hc1 := fun q => part_conv HT9.out htc i P.length hin q
            have hw1 : IntKind.i64.wrap ((i : Int) + (P.length : Int)) = (i : Int) + (P.length : Int) := by rw [IntKind.wrap_i64]; omega
            have hw2 : (i : Int) + (P.length : Int) ≤ (tc : Int) := by omega
            have hw3 : 0 ≤ (i : Int) + (P.length : Int) := by omega
            have hc2 := fun q => whole_str HP9.out HC.out.2 q
            have hs1 : (⟨((T.drop i).take P.length).toArray⟩ : ByteArray) ≠ ⟨P.toArray⟩ := fun e => HNo.out.2 i hin (by have := congrArg (fun x : ByteArray => x.data.toList) e; simpa using this)
            generalize (⟨((T.drop i).take P.length).toArray⟩ : ByteArray) = sa at *
            generalize (⟨P.toArray⟩ : ByteArray) = sb at *
            have hs3 : (sa.toList == sb.toList) = false := ba_ne hs1
            have hs2 : (sa == sb) = false := by rw [beq_toListBytes]; exact hs3
            go_wp2_with fail
            go_quiet (fail)
            go_wp2_with fail
            go_roundw
            case rel => exact ⟨i + 1, rfl, by go_num, by omega, _, rfl⟩
            case measure => simp [intOf]; omega
        · as_aux_lemma =>
            have h1 : decide ((i : Int) + (P.length : Int) ≤ (T.length : Int)) = false := decide_eq_false (by omega)
            obtain ⟨o0, o1, o2, o3, o4, o5, o6, o7⟩ := cellsOb HBr10.out.1.b1
            have hsr : srchL ⟨6, false, 0, 0, ⟨#[]⟩, 1, 0, (T.length : Int)⟩ T P = [⟨6, false, 0, 0, ⟨#[]⟩, 1, 0, (T.length : Int)⟩, boolO false] := by unfold srchL; rw [HNo.out.1, if_pos (by omega)]
            have hH := HH.out
            rw [hsr] at hH
            rcases hH with hH | ⟨B, rfl, _, hBl, hHc⟩
            · cases hH
            have hHc2 : ∀ j z, (([⟨6, false, 0, 0, ⟨#[]⟩, 1, 0, (T.length : Int)⟩, boolO false] : List Ob).flatMap Ob.cells)[j]? = some z → w9.cell? ⟨B, 0 + j, none⟩ = some z := fun j z hz => by rw [Nat.zero_add]; exact hHc j z hz
            obtain ⟨x0, x1, x2, x3, x4, x5, x6, x7⟩ := ob_cells (i := 0) hHc2 (x := ⟨6, false, 0, 0, ⟨#[]⟩, 1, 0, (T.length : Int)⟩) rfl
            obtain ⟨_, _, _, y3, _⟩ := ob_cells (i := 1) hHc2 (x := boolO false) rfl
            simp only [Nat.zero_mul, Nat.add_zero, Nat.one_mul, Nat.zero_add, boolO, Bool.false_eq_true, if_false] at x0 x1 x2 x3 x4 x5 x6 x7 y3
            have heq : ∀ W, (Op.equalIn 10000 41 (.agg #[.int .i64 6, .bool false, .int .i64 0, .int .i64 0, .string ⟨#[]⟩, .int .i64 1, .int .i64 0, .int .i64 (T.length : Int)]) (.agg #[.int .i64 6, .bool false, .int .i64 0, .int .i64 0, .string ⟨#[]⟩, .int .i64 1, .int .i64 0, .int .i64 (T.length : Int)])).run Tryz.prog W = .ok true W := fun W => by
              have := ob_eql ⟨6, false, 0, 0, ⟨#[]⟩, 1, 0, (T.length : Int)⟩ ⟨6, false, 0, 0, ⟨#[]⟩, 1, 0, (T.length : Int)⟩ W
              rw [show obEq ⟨6, false, 0, 0, ⟨#[]⟩, 1, 0, (T.length : Int)⟩ ⟨6, false, 0, 0, ⟨#[]⟩, 1, 0, (T.length : Int)⟩ = true by simp [obEq, beq_toListBytes]] at this
              exact this
            clear hsr hHc hHc2
            go_wp2_with fail
            go_quiet (fail)
            have HBw := Lib.hid (HBw9.out.trans (show Below w.heap.size w9 (w9.drewN q) from ⟨rfl, rfl, rfl, Nat.le_refl _, fun _ _ => rfl⟩))
            have HBw2 := Lib.hid (fun n => HBw.out.trans (show Below w.heap.size (w9.drewN q) ((w9.drewN q).drewN n) from ⟨rfl, rfl, rfl, Nat.le_refl _, fun _ _ => rfl⟩))
            go_wp2_with fail
            go_ret
            exact ⟨rfl, HBw2.out _⟩
  · rw [show (srchL ⟨6, false, 0, 0, ⟨#[]⟩, 1, 0, (T.length : Int)⟩ T P).length = 4 by unfold srchL; rw [hpos, if_neg (by omega)]; rfl]
    have HYes := Lib.hid (And.intro hpos (And.intro hle (And.intro hat hno)))
    clear hpos hat hno
    go_wp2_with fail
    have hbw9 : Below w.heap.size w w9 := HBr10.out.1.1.below (Nat.le_refl _) (fun k hk e => by have := HLo7.out k e; omega)
    have HBw9 := Lib.hid hbw9
    have HT9 := Lib.hid (HT.out w9 hbw9)
    have HP9 := Lib.hid (HP.out w9 hbw9)
    clear hbw9
    go_loopw [13, 14] (fun va vi wr => ∃ j : Nat, vi = .int .i64 j ∧ ((va = .int .i64 (-1) ∧ j ≤ i) ∨ (va = .int .i64 i ∧ j = i + 1)) ∧ ∃ q, wr = w9.drewN q) (fun _ v _ => T.length + 2 - (intOf v).toNat)
    case atStart => exact ⟨0, rfl, .inl ⟨rfl, Nat.zero_le _⟩, 0, rfl⟩
    case round =>
      obtain ⟨j, rfl, hor, q, rfl⟩ := hrel
      rcases hor with ⟨rfl, hj⟩ | ⟨rfl, hj⟩
      · have hin : j + P.length ≤ T.length := by omega
        have h1 : decide ((j : Int) + (P.length : Int) ≤ (T.length : Int)) = true := decide_eq_true (by omega)
        have hc1 := fun q => part_conv HT9.out htc j P.length hin q
        have hw1 : IntKind.i64.wrap ((j : Int) + (P.length : Int)) = (j : Int) + (P.length : Int) := by rw [IntKind.wrap_i64]; omega
        have hw2 : (j : Int) + (P.length : Int) ≤ (tc : Int) := by omega
        have hw3 : 0 ≤ (j : Int) + (P.length : Int) := by omega
        have hc2 := fun q => whole_str HP9.out HC.out.2 q
        by_cases hji : j = i
        · as_aux_lemma =>
            subst hji
            rw [HYes.out.2.2.1] at hc1
            generalize (⟨P.toArray⟩ : ByteArray) = sb at *
            clear hj
            go_wp2_with fail
            go_quiet (fail)
            go_wp2_with fail
            go_roundw
            case rel => exact ⟨j + 1, by go_num, .inr ⟨rfl, rfl⟩, _, rfl⟩
            case measure => simp [intOf]; omega
        · as_aux_lemma =>
            have hs1 : (⟨((T.drop j).take P.length).toArray⟩ : ByteArray) ≠ ⟨P.toArray⟩ := fun e => HYes.out.2.2.2 j (by omega) (by have := congrArg (fun x : ByteArray => x.data.toList) e; simpa using this)
            generalize (⟨((T.drop j).take P.length).toArray⟩ : ByteArray) = sa at *
            generalize (⟨P.toArray⟩ : ByteArray) = sb at *
            have hs3 : (sa.toList == sb.toList) = false := ba_ne hs1
            have hs2 : (sa == sb) = false := by rw [beq_toListBytes]; exact hs3
            have HJ := Lib.hid (show j + 1 ≤ i by omega)
            clear hji hj hs1 hs2
            go_wp2_with fail
            go_quiet (fail)
            go_wp2_with fail
            go_roundw
            case rel => exact ⟨j + 1, by go_num, .inl ⟨rfl, HJ.out⟩, _, rfl⟩
            case measure => simp [intOf]; omega
      · have hw1 : IntKind.i64.wrap ((j : Int) + (P.length : Int)) = (j : Int) + (P.length : Int) := by rw [IntKind.wrap_i64]; omega
        obtain ⟨dd, h1⟩ : ∃ dd, decide ((j : Int) + (P.length : Int) ≤ (T.length : Int)) = dd := ⟨_, rfl⟩
        cases dd <;> as_aux_lemma =>
          have h2 : decide ((i : Int) < 0) = false := decide_eq_false (by omega)
          have h5 : decide ((i : Int) < 0) = false := decide_eq_false (by omega)
          obtain ⟨_, _, _, _, _, o5, _, _⟩ := cellsOb HBr10.out.1.b1
          have hsr : srchL ⟨6, false, 0, 0, ⟨#[]⟩, 1, 0, (T.length : Int)⟩ T P = [⟨6, false, 0, 0, ⟨#[]⟩, 1, (i : Int) + P.length, (T.length : Int) - ((i : Int) + P.length)⟩, ⟨6, false, 0, 0, ⟨#[]⟩, 1, i, P.length⟩, ⟨6, false, 0, 0, ⟨#[]⟩, 1, 0, i⟩, boolO true] := by unfold srchL; rw [HYes.out.1, if_neg (by omega)]; simp [prt]
          have hH := HH.out
          rw [hsr] at hH
          rcases hH with hH | ⟨B, rfl, _, hBl, hHc⟩
          · cases hH
          have hHc2 : ∀ j z, (([⟨6, false, 0, 0, ⟨#[]⟩, 1, (i : Int) + P.length, (T.length : Int) - ((i : Int) + P.length)⟩, ⟨6, false, 0, 0, ⟨#[]⟩, 1, i, P.length⟩, ⟨6, false, 0, 0, ⟨#[]⟩, 1, 0, i⟩, boolO true] : List Ob).flatMap Ob.cells)[j]? = some z → w9.cell? ⟨B, 0 + j, none⟩ = some z := fun j z hz => by rw [Nat.zero_add]; exact hHc j z hz
          obtain ⟨x0, x1, x2, x3, x4, x5, x6, x7⟩ := ob_cells (i := 0) hHc2 (x := ⟨6, false, 0, 0, ⟨#[]⟩, 1, (i : Int) + P.length, (T.length : Int) - ((i : Int) + P.length)⟩) rfl
          obtain ⟨y0, y1, y2, y3, y4, y5, y6, y7⟩ := ob_cells (i := 1) hHc2 (x := ⟨6, false, 0, 0, ⟨#[]⟩, 1, i, P.length⟩) rfl
          obtain ⟨z0, z1, z2, z3, z4, z5, z6, z7⟩ := ob_cells (i := 2) hHc2 (x := ⟨6, false, 0, 0, ⟨#[]⟩, 1, 0, i⟩) rfl
          obtain ⟨_, _, _, v3, _⟩ := ob_cells (i := 3) hHc2 (x := boolO true) rfl
          simp only [Nat.zero_mul, Nat.add_zero, Nat.one_mul, Nat.zero_add, Nat.reduceMul, Nat.reduceAdd, boolO, if_true] at x0 x1 x2 x3 x4 x5 x6 x7 y0 y1 y2 y3 y4 y5 y6 y7 z0 z1 z2 z3 z4 z5 z6 z7 v3
          have HHc := Lib.hid hHc2
          have HB1 := Lib.hid (fun n => bytes_part (HBr10.out.drews n).2 0 i (by omega))
          clear hsr hHc hHc2 hj
          go_wp2_with fail
          as_aux_lemma =>
            go_quiet (fail)
            go_wp2_with fail
            refine (HB1.out _).mono ?_; rintro e w11 ⟨C1, rfl, hc1, hb11⟩
            have HC1 := Lib.hid hc1
            have HBx11 := Lib.hid ((HBr10.out.drews _).below hb11)
            have HBw11 := Lib.hid ((HBw9.out.drews2 _).trans (hb11.mono (show w.heap.size ≤ w9.heap.size from HBw9.out.size)))
            have HH11 := Lib.hid (fun j z hz => (hb11.cell (by exact hBl)).trans (HHc.out j z hz))
            have HL11 := Lib.hid (And.intro (show C1 < w11.heap.size from (Array.getElem?_eq_some_iff.1 hc1).1) (show B < w11.heap.size from Nat.lt_of_lt_of_le hBl hb11.size))
            clear hc1 hb11 x0 x1 x2 x3 x4 x5 x6 x7 y0 y1 y2 y3 y4 y5 y6 y7 z0 z1 z2 z3 z4 z5 z6 z7 v3 o5 HB1 HBr10 HBw9 HHc hBl
            have q1 := ob_cells (i := 1) HH11.out (x := ⟨6, false, 0, 0, ⟨#[]⟩, 1, i, P.length⟩) rfl
            have HB2 := Lib.hid (fun n => bytes_part (HBx11.out.drews n).2 i P.length (by omega))
            simp only [Nat.zero_add, Nat.one_mul, Nat.reduceAdd] at q1
            obtain ⟨y0, y1, y2, y3, y4, y5, y6, y7⟩ := q1
            go_wp2_with fail
            as_aux_lemma =>
              refine (HB2.out 0).mono ?_; rintro e w12 ⟨C2, rfl, hc2, hb12⟩
              have HC2 := Lib.hid (And.intro ((hb12.block C1 HL11.out.1).trans HC1.out) hc2)
              have HBx12 := Lib.hid (HBx11.out.below hb12)
              have HBw12 := Lib.hid (HBw11.out.trans (hb12.mono (show w.heap.size ≤ w11.heap.size from HBw11.out.size)))
              have HH12 := Lib.hid (fun j z hz => (hb12.cell (by exact HL11.out.2)).trans (HH11.out j z hz))
              have HL12 := Lib.hid (And.intro (show C1 < w12.heap.size from Nat.lt_of_lt_of_le HL11.out.1 hb12.size) (show C2 < w12.heap.size from (Array.getElem?_eq_some_iff.1 hc2).1))
              clear hc2 hb12 y0 y1 y2 y3 y4 y5 y6 y7 HB2 HBx11 HBw11 HH11 HL11 HC1
              have q1 := ob_cells (i := 0) HH12.out (x := ⟨6, false, 0, 0, ⟨#[]⟩, 1, (i : Int) + P.length, (T.length : Int) - ((i : Int) + P.length)⟩) rfl
              have HB3 := Lib.hid (fun n => bytes_part (HBx12.out.drews n).2 (i + P.length) (T.length - (i + P.length)) (by omega))
              rw [show ((i + P.length : Nat) : Int) = (i : Int) + P.length by omega, show ((T.length - (i + P.length) : Nat) : Int) = (T.length : Int) - ((i : Int) + P.length) by omega] at HB3
              simp only [Nat.zero_add, Nat.zero_mul] at q1
              obtain ⟨y0, y1, y2, y3, y4, y5, y6, y7⟩ := q1
              go_wp2_with fail
              as_aux_lemma =>
                refine (HB3.out 0).mono ?_; rintro e w13 ⟨C3, rfl, hc3, hb13⟩
                have HBw13 := Lib.hid (HBw12.out.trans (hb13.mono (show w.heap.size ≤ w12.heap.size from HBw12.out.size)))
                have k1 := fun q => blk_str ((hb13.block C1 HL12.out.1).trans HC2.out.1) i (by rw [List.length_take, List.length_drop]; omega) q
                have k2 := fun q => blk_str ((hb13.block C2 HL12.out.2).trans HC2.out.2) P.length (by rw [HYes.out.2.2.1]) q
                have k3 := fun q => blk_str hc3 (T.length - (i + P.length)) (by rw [List.length_take, List.length_drop]; omega) q
                have k4 := fun q => whole_str (HP.out _ HBw13.out) HC.out.2 q
                have k5 := fun q => whole_str (HT.out _ HBw13.out) HC.out.1 q
                rw [HYes.out.2.2.1] at k2
                rw [List.drop_zero] at k1
                have hj := three_join T P i HYes.out.2.2.1
                have k6 := cat_of ⟨(T.take i).toArray⟩ ⟨P.toArray⟩ _ rfl (by show (T.take i).toArray.size + P.toArray.size ≤ _; simp; omega)
                have k7 := cat_of (⟨(T.take i).toArray⟩ ++ ⟨P.toArray⟩) ⟨((T.drop (i + P.length)).take (T.length - (i + P.length))).toArray⟩ ⟨T.toArray⟩ hj (by have := congrArg ByteArray.size hj; rw [ByteArray.size_append] at this; rw [this]; show T.toArray.size ≤ _; simp; omega)
                have HEnd := HBw13
                have m1 : (convert 36 9 (.slice (some ⟨C1, 0, none⟩) i i)).run Tryz.prog w13 = .ok (.string ⟨(T.take i).toArray⟩) w13 := k1 0
                have m2 : (convert 36 9 (.slice (some ⟨C2, 0, none⟩) P.length P.length)).run Tryz.prog w13 = .ok (.string ⟨P.toArray⟩) w13 := k2 0
                have m3 : (convert 36 9 (.slice (some ⟨C3, 0, none⟩) (T.length - (i + P.length)) (T.length - (i + P.length)))).run Tryz.prog w13 = .ok (.string ⟨((T.drop (i + P.length)).take (T.length - (i + P.length))).toArray⟩) w13 := k3 0
                have m4 : (convert 36 9 (.slice pa P.length pc)).run Tryz.prog w13 = .ok (.string ⟨P.toArray⟩) w13 := k4 0
                have m5 : (convert 36 9 (.slice ta T.length tc)).run Tryz.prog w13 = .ok (.string ⟨T.toArray⟩) w13 := k5 0
                clear hj hc3 hb13 y0 y1 y2 y3 y4 y5 y6 y7 HB3 HBx12 HBw12 HH12 HL12 HC2 HYes
                generalize (⟨(T.take i).toArray⟩ : ByteArray) = sa at *
                generalize (⟨P.toArray⟩ : ByteArray) = sb at *
                generalize (⟨((T.drop (i + P.length)).take (T.length - (i + P.length))).toArray⟩ : ByteArray) = sc at *
                generalize (⟨T.toArray⟩ : ByteArray) = sd at *
                generalize sa ++ sb = se at *
                go_wp2_with fail
                go_ret
                exact ⟨rfl, HEnd.out⟩
end Col
end Go.Proofs.YtmcopfcmnbhaaaaGreat
