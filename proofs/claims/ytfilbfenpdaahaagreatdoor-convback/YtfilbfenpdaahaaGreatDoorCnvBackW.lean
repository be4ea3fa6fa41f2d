/-
  The law ConvBack, walked: a number's text, laid into a string of 60 bytes, is the number again.
-/
import Derived.Test.YtfilbfenpdaahaaGreatDoorCnvBkD
import Derived.Test.YtfilbfenpdaahaaGreatDoorCnvTextsW
namespace Go.Proofs.YtfilbfenpdaahaaGreatDoor
open Go.RowKit
open St
open Stk
open Col
open Cn
namespace Cv
def twoC (k n : Int) : Array Value := #[.int .i64 k, .bool false, .int .i64 0, .int .i64 n, .string ⟨#[]⟩, .int .i64 0, .int .i64 0, .int .i64 0, .int .i64 6, .bool false, .int .i64 0, .int .i64 0, .string ⟨#[]⟩, .int .i64 1, .int .i64 0, .int .i64 60]
set_option maxRecDepth 100000 in
set_option maxHeartbeats 1000000 in
theorem back_int (n : Int) (hn : -2147483648 ≤ n ∧ n ≤ 2147483647) (w : World) (ht : Tab w) (hm : Mx w) :
    Calls Tryz.prog 3 #[.int .i32 n, .bool false] w fun e w' => e = .returned (.bool true) ∧ Below w.heap.size w w' := by
  have HA := Lib.hid (fun w2 (hb : Below w.heap.size w w2) => answers10 w2 (Tab.below ht hb))
  have HT := Lib.hid (fun w2 (hb : Below w.heap.size w w2) => Tab.below ht hb)
  have HM := Lib.hid (fun w2 (hb : Below w.heap.size w w2) => Mx.below hm hb)
  have HN := Lib.hid (new_at 500 w (by decide) (by decide))
  have HI := Lib.hid hn
  have wn : IntKind.i64.wrap n = n := by rw [IntKind.wrap_i64]; omega
  clear ht hm hn
  go_enter Tryz.func3, Tryz.ntmps3
  go_wp2_with fail
  refine HN.out.mono ?_; rintro e w1 ⟨rfl, hr1, hb1⟩
  have HS := Lib.hid (string60 (hr1.below (below1 w1 (obC (numO 1 n)))))
  have HBx := Lib.hid (bx1 w1 (obC (numO 1 n)) hr1.olt)
  have HB1 := Lib.hid hb1
  have HO1 := Lib.hid hr1.olt
  have hsz : (w1.alloc (obC (numO 1 n))).heap.size = w1.heap.size + 1 := by simp
  have HSz := Lib.hid hsz
  unfold obC numO at HS HBx HSz
  unfold Ob.val rmO at HS
  clear hr1 hb1 HN hsz
  go_wp2_with fail
  refine HS.out.mono ?_; rintro e w2 ⟨rfl, l, fr, hr2, hF2⟩
  obtain ⟨O, hr, hOw, hnb, hbx⟩ : ∃ O : Nat → Prop, Rep O w2 w.heap.size fr (gB z60 l) ∧ (∀ q, O q → w.heap.size ≤ q) ∧ ¬ O w1.heap.size ∧ w2.heap[w1.heap.size]? = some (obC (numO 1 n)) := by
    refine ⟨_, hr2, fun q hq => ?_, fun hq => ?_, (HBx.out.frm hF2).b0⟩
    · have hs1 := HSz.out
      have hs0 := HB1.out.size
      rcases hq with hq | ⟨hq, _⟩
      · omega
      · rw [hs1] at hq; omega
    · have hs1 := HSz.out
      have hs0 := HO1.out _ rfl
      rcases hq with hq | ⟨hq, _⟩
      · omega
      · rw [hs1] at hq; omega
  have hB2 : Below w.heap.size w w2 := (bthen HB1.out (below1 w1 _)).trans (hF2.below (by rw [HSz.out]; have := HB1.out.size; omega) (fun q hq e => by omega))
  have hlt2 : w1.heap.size < w2.heap.size := (Array.getElem?_eq_some_iff.1 hbx).1
  have hb3 := bthen (below1 w2 (obC (rmO 60))) (below1 (w2.alloc (obC (rmO 60))) (.cells (twoC 1 n) 27))
  have hs3 := (hnd_of (l := [numO 1 n, rmO 60]) (N := 0) (w := w2.alloc (obC (rmO 60))) (c := twoC 1 n) (t := 27) (Nat.zero_le _) rfl).src
  rw [show (w2.alloc (obC (rmO 60))).heap.size = w2.heap.size + 1 from by simp] at hs3
  have HD := Lib.hid (back_cvs (c := 2) (k := 1) (hr.below hb3) (fun ad e hO => by cases e; have := hr.olt (w2.heap.size + 1) hO; omega) hs3 (by omega) HI.out (HT.out _ (bthen hB2 hb3)))
  have HB3 := Lib.hid (bthen hB2 hb3)
  have HX3 := Lib.hid ((hb3.block _ hlt2).trans hbx)
  have HOw := Lib.hid (And.intro hOw hnb)
  have hy := ((below1 w2 (obC (rmO 60))).block _ hlt2).trans hbx
  unfold rmO s_cvs twoC at HD
  unfold numO rmO twoC at HB3 HX3
  unfold obC numO rmO at hy
  unfold obC at HD HB3 HX3
  unfold obC numO at hbx
  obtain ⟨x0, x1, x2, x3, x4, x5, x6, x7⟩ := cellsOb hbx
  obtain ⟨y0, y1, y2, y3, y4, y5, y6, y7⟩ := cellsOb hy
  clear hr2 hF2 hr hOw hnb hbx hB2 hb3 hs3 hy HS HBx HB1 HO1 HSz
  go_wp2_with fail
  refine HD.out.mono ?_; rintro e w4 ⟨hF4, hr4, p', rfl, hh4⟩
  have h60 := txtN_len (k := 1) HI.out
  have hT := txtN_tok (k := 1) (by omega) HI.out
  have HX4 := Lib.hid ((hF4.block _ (Array.getElem?_eq_some_iff.1 HX3.out).1 HOw.out.2).trans HX3.out)
  have HB4 : Hid (Below w.heap.size w w4) := Lib.hid (HB3.out.trans (hF4.below HB3.out.size (fun q hq e => by have := HOw.out.1 q e; omega)))
  generalize txtN 1 n = L at *
  have HR4 := Lib.hid hr4
  have HH4 := Lib.hid hh4
  have H60 := Lib.hid (And.intro h60 hT)
  clear hF4 hr4 hh4 h60 hT HD HB3 HX3 hlt2 x0 x1 x2 x3 x4 x5 x6 x7 y0 y1 y2 y3 y4 y5 y6 y7
  go_wp2_with fail
  refine (HA.out w4 HB4.out).mono ?_; rintro e w5 ⟨rfl, hb5⟩
  have hB5 := bthen HB4.out hb5
  have hx5 := (hb5.block _ (Array.getElem?_eq_some_iff.1 HX4.out).1).trans HX4.out
  have hr5 := HR4.out.below hb5
  have hs5 := HH4.out.src.below hb5
  obtain ⟨B, f, rfl, hBlt, hcl⟩ := Col.SrcO.plain hs5 (by simp)
  obtain ⟨y0, y1, y2, y3, y4, y5, y6, y7⟩ := ob_cells (i := 0) hcl (x := rmO L.length) rfl
  rw [Nat.zero_mul, Nat.add_zero] at y0 y1 y2 y3 y4 y5 y6 y7
  have hs6 : SrcO (w5.alloc (obC (rmO L.length))) (some ⟨w5.heap.size, 0, none⟩) [rmO L.length] := (hnd_of (l := [rmO L.length]) (N := 0) (w := w5) (c := _) (t := 27) (Nat.zero_le _) rfl).src
  have hb6 := below1 w5 (obC (rmO L.length))
  have HD2 := Lib.hid (back_cvi (c := 1) (hr5.below hb6) hs6 H60.out.1 H60.out.2 (HM.out _ (bthen hB5 hb6)))
  have HB6 := Lib.hid (bthen hB5 hb6)
  have HX6 := Lib.hid ((hb6.block _ (Array.getElem?_eq_some_iff.1 hx5).1).trans hx5)
  unfold s_cvi at HD2
  unfold rmO at HD2 HB6 HX6 y0 y1 y2 y3 y4 y5 y6 y7
  unfold obC at HD2 HB6 HX6
  clear hb5 hB5 hx5 hr5 hs5 hcl hs6 hb6 hBlt HA HX4 HB4 HR4 HH4 H60 HT HM
  go_wp2_with fail
  refine HD2.out.mono ?_; rintro e w7 ⟨hF7, _, p2, rfl, hh7⟩
  have hx7 := (hF7.block _ (Array.getElem?_eq_some_iff.1 HX6.out).1 HOw.out.2).trans HX6.out
  have HB7 : Hid (Below w.heap.size w w7) := Lib.hid (HB6.out.trans (hF7.below HB6.out.size (fun q hq e => by have := HOw.out.1 q e; omega)))
  obtain ⟨B2, f2, rfl, _, hcl2⟩ := Col.SrcO.plain hh7.src (by simp)
  obtain ⟨z0, z1, z2, z3, z4, z5, z6, z7⟩ := ob_cells (i := 0) hcl2 (x := numO 1 n) rfl
  rw [Nat.zero_mul, Nat.add_zero] at z0 z1 z2 z3 z4 z5 z6 z7
  unfold numO at z0 z1 z2 z3 z4 z5 z6 z7
  obtain ⟨x0, x1, x2, x3, x4, x5, x6, x7⟩ := cellsOb hx7
  clear hF7 hx7 hh7 hcl2 HD2 HB6 HX6 HOw y0 y1 y2 y3 y4 y5 y6 y7
  go_wp2_with fail
  go_quiet (fail)
  go_wp2_with fail
  go_ret
  (first | exact ⟨rfl, HB7.out⟩ | exact ⟨rfl, below_draw HB7.out _⟩)
set_option maxRecDepth 100000 in
set_option maxHeartbeats 1000000 in
theorem back_real (n : Int) (hn : -2147483648 ≤ n ∧ n ≤ 2147483647) (w : World) (ht : Tab w) (hm : Mx w) :
    Calls Tryz.prog 3 #[.int .i32 n, .bool true] w fun e w' => e = .returned (.bool true) ∧ Below w.heap.size w w' := by
  have HA := Lib.hid (fun w2 (hb : Below w.heap.size w w2) => answers10 w2 (Tab.below ht hb))
  have HT := Lib.hid (fun w2 (hb : Below w.heap.size w w2) => Tab.below ht hb)
  have HM := Lib.hid (fun w2 (hb : Below w.heap.size w w2) => Mx.below hm hb)
  have HN := Lib.hid (new_at 500 w (by decide) (by decide))
  have HI := Lib.hid hn
  have wn : IntKind.i64.wrap n = n := by rw [IntKind.wrap_i64]; omega
  clear ht hm hn
  go_enter Tryz.func3, Tryz.ntmps3
  go_wp2_with fail
  refine HN.out.mono ?_; rintro e w1 ⟨rfl, hr1, hb1⟩
  have HS := Lib.hid (string60 (hr1.below (below1 w1 (obC (numO 2 n)))))
  have HBx := Lib.hid (bx1 w1 (obC (numO 2 n)) hr1.olt)
  have HB1 := Lib.hid hb1
  have HO1 := Lib.hid hr1.olt
  have hsz : (w1.alloc (obC (numO 2 n))).heap.size = w1.heap.size + 1 := by simp
  have HSz := Lib.hid hsz
  unfold obC numO at HS HBx HSz
  unfold Ob.val rmO at HS
  clear hr1 hb1 HN hsz
  go_wp2_with fail
  refine HS.out.mono ?_; rintro e w2 ⟨rfl, l, fr, hr2, hF2⟩
  obtain ⟨O, hr, hOw, hnb, hbx⟩ : ∃ O : Nat → Prop, Rep O w2 w.heap.size fr (gB z60 l) ∧ (∀ q, O q → w.heap.size ≤ q) ∧ ¬ O w1.heap.size ∧ w2.heap[w1.heap.size]? = some (obC (numO 2 n)) := by
    refine ⟨_, hr2, fun q hq => ?_, fun hq => ?_, (HBx.out.frm hF2).b0⟩
    · have hs1 := HSz.out
      have hs0 := HB1.out.size
      rcases hq with hq | ⟨hq, _⟩
      · omega
      · rw [hs1] at hq; omega
    · have hs1 := HSz.out
      have hs0 := HO1.out _ rfl
      rcases hq with hq | ⟨hq, _⟩
      · omega
      · rw [hs1] at hq; omega
  have hB2 : Below w.heap.size w w2 := (bthen HB1.out (below1 w1 _)).trans (hF2.below (by rw [HSz.out]; have := HB1.out.size; omega) (fun q hq e => by omega))
  have hlt2 : w1.heap.size < w2.heap.size := (Array.getElem?_eq_some_iff.1 hbx).1
  have hb3 := bthen (below1 w2 (obC (rmO 60))) (below1 (w2.alloc (obC (rmO 60))) (.cells (twoC 2 n) 27))
  have hs3 := (hnd_of (l := [numO 2 n, rmO 60]) (N := 0) (w := w2.alloc (obC (rmO 60))) (c := twoC 2 n) (t := 27) (Nat.zero_le _) rfl).src
  rw [show (w2.alloc (obC (rmO 60))).heap.size = w2.heap.size + 1 from by simp] at hs3
  have HD := Lib.hid (back_cvs (c := 2) (k := 2) (hr.below hb3) (fun ad e hO => by cases e; have := hr.olt (w2.heap.size + 1) hO; omega) hs3 (by omega) HI.out (HT.out _ (bthen hB2 hb3)))
  have HB3 := Lib.hid (bthen hB2 hb3)
  have HX3 := Lib.hid ((hb3.block _ hlt2).trans hbx)
  have HOw := Lib.hid (And.intro hOw hnb)
  have hy := ((below1 w2 (obC (rmO 60))).block _ hlt2).trans hbx
  unfold rmO s_cvs twoC at HD
  unfold numO rmO twoC at HB3 HX3
  unfold obC numO rmO at hy
  unfold obC at HD HB3 HX3
  unfold obC numO at hbx
  obtain ⟨x0, x1, x2, x3, x4, x5, x6, x7⟩ := cellsOb hbx
  obtain ⟨y0, y1, y2, y3, y4, y5, y6, y7⟩ := cellsOb hy
  clear hr2 hF2 hr hOw hnb hbx hB2 hb3 hs3 hy HS HBx HB1 HO1 HSz
  go_wp2_with fail
  refine HD.out.mono ?_; rintro e w4 ⟨hF4, hr4, p', rfl, hh4⟩
  have h60 := txtN_len (k := 2) HI.out
  have hT := txtN_tok (k := 2) (by omega) HI.out
  have HX4 := Lib.hid ((hF4.block _ (Array.getElem?_eq_some_iff.1 HX3.out).1 HOw.out.2).trans HX3.out)
  have HB4 : Hid (Below w.heap.size w w4) := Lib.hid (HB3.out.trans (hF4.below HB3.out.size (fun q hq e => by have := HOw.out.1 q e; omega)))
  generalize txtN 2 n = L at *
  have HR4 := Lib.hid hr4
  have HH4 := Lib.hid hh4
  have H60 := Lib.hid (And.intro h60 hT)
  clear hF4 hr4 hh4 h60 hT HD HB3 HX3 hlt2 x0 x1 x2 x3 x4 x5 x6 x7 y0 y1 y2 y3 y4 y5 y6 y7
  go_wp2_with fail
  refine (HA.out w4 HB4.out).mono ?_; rintro e w5 ⟨rfl, hb5⟩
  have hB5 := bthen HB4.out hb5
  have hx5 := (hb5.block _ (Array.getElem?_eq_some_iff.1 HX4.out).1).trans HX4.out
  have hr5 := HR4.out.below hb5
  have hs5 := HH4.out.src.below hb5
  obtain ⟨B, f, rfl, hBlt, hcl⟩ := Col.SrcO.plain hs5 (by simp)
  obtain ⟨y0, y1, y2, y3, y4, y5, y6, y7⟩ := ob_cells (i := 0) hcl (x := rmO L.length) rfl
  rw [Nat.zero_mul, Nat.add_zero] at y0 y1 y2 y3 y4 y5 y6 y7
  have hs6 : SrcO (w5.alloc (obC (rmO L.length))) (some ⟨w5.heap.size, 0, none⟩) [rmO L.length] := (hnd_of (l := [rmO L.length]) (N := 0) (w := w5) (c := _) (t := 27) (Nat.zero_le _) rfl).src
  have hb6 := below1 w5 (obC (rmO L.length))
  have HD2 := Lib.hid (back_cvr (c := 1) (hr5.below hb6) hs6 H60.out.1 H60.out.2 (HM.out _ (bthen hB5 hb6)))
  have HB6 := Lib.hid (bthen hB5 hb6)
  have HX6 := Lib.hid ((hb6.block _ (Array.getElem?_eq_some_iff.1 hx5).1).trans hx5)
  unfold s_cvr at HD2
  unfold rmO at HD2 HB6 HX6 y0 y1 y2 y3 y4 y5 y6 y7
  unfold obC at HD2 HB6 HX6
  clear hb5 hB5 hx5 hr5 hs5 hcl hs6 hb6 hBlt HA HX4 HB4 HR4 HH4 H60 HT HM
  go_wp2_with fail
  refine HD2.out.mono ?_; rintro e w7 ⟨hF7, _, p2, rfl, hh7⟩
  have hx7 := (hF7.block _ (Array.getElem?_eq_some_iff.1 HX6.out).1 HOw.out.2).trans HX6.out
  have HB7 : Hid (Below w.heap.size w w7) := Lib.hid (HB6.out.trans (hF7.below HB6.out.size (fun q hq e => by have := HOw.out.1 q e; omega)))
  obtain ⟨B2, f2, rfl, _, hcl2⟩ := Col.SrcO.plain hh7.src (by simp)
  obtain ⟨z0, z1, z2, z3, z4, z5, z6, z7⟩ := ob_cells (i := 0) hcl2 (x := numO 2 n) rfl
  rw [Nat.zero_mul, Nat.add_zero] at z0 z1 z2 z3 z4 z5 z6 z7
  unfold numO at z0 z1 z2 z3 z4 z5 z6 z7
  obtain ⟨x0, x1, x2, x3, x4, x5, x6, x7⟩ := cellsOb hx7
  clear hF7 hx7 hh7 hcl2 HD2 HB6 HX6 HOw y0 y1 y2 y3 y4 y5 y6 y7
  go_wp2_with fail
  go_quiet (fail)
  go_wp2_with fail
  go_ret
  (first | exact ⟨rfl, HB7.out⟩ | exact ⟨rfl, below_draw HB7.out _⟩)
theorem back_walk (n : Int) (real : Bool) (hn : -2147483648 ≤ n ∧ n ≤ 2147483647) (w : World) (ht : Tab w) (hm : Mx w) :
    Calls Tryz.prog 3 #[.int .i32 n, .bool real] w fun e w' => e = .returned (.bool true) ∧ Below w.heap.size w w' := by
  cases real
  · exact back_int n hn w ht hm
  · exact back_real n hn w ht hm
end Cv
end Go.Proofs.YtfilbfenpdaahaaGreatDoor
