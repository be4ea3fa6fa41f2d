/-
  A thing of one kind that is made in both: law10.build, by a contract.
-/
import Derived.Test.YtfilbfenpdaahaaGreatDoorCnvBuild
namespace Go.Proofs.YtfilbfenpdaahaaGreatDoor
open Go.RowKit
open St
open Col
open Mm
namespace Cn
set_option maxRecDepth 100000 in
set_option maxHeartbeats 1000000 in
theorem build_n7a {O : Nat → Prop} {w : World} {s M : Nat} (h : Rep O w s 500 []) (hM : w.heap[M]? = some (memC 500 0 (.slice none 0 0) (.slice none 0 0) (.slice none 0 0) 0)) (_hMO : ¬ O M) (t : Tg) (hbad : t.bad = false) (hk : t.kind = 7) (h0 : t.n < 0) :
    Calls Tryz.prog 13 #[.pointer (some ⟨s, 0, none⟩), .pointer (some ⟨M, 0, none⟩), t.val] w (Bld O w s M t) := by
  have HBd := Lib.hid hbad
  obtain ⟨d1, d2, d3, d4, d5, d6⟩ := Tg.good hbad
  have hMlt : M < w.heap.size := (Array.getElem?_eq_some_iff.1 hM).1
  have hOM : ∀ k, OM O M k → k < w.heap.size := fun k hk => by rcases hk with e | e; exact h.olt k e; omega
  have hbx := five_bx (O := OM O M) t hOM
  have hb5 := five_below w t
  have hR5 := h.below hb5
  have hM5 := (hb5.block M hMlt).trans hM
  have HSz := Lib.hid (five_size w t)
  have HK := Lib.hid hk
  have g1 : decide (t.n < 0) = true := decide_eq_true h0
  clear hk h0
  unfold Tg.val
  clear hbad
  go_enter Tryz.func13, Tryz.ntmps13
  go_upto_region 6 with fail
  change Code.wp _ _ _ _ (five w t)
  generalize hW : five w t = W at *
  have hMW : M < W.heap.size := by have := HSz.out; omega
  obtain ⟨tb, b1, b2, b3, b4⟩ := boxes_at hbx
  unfold tgC at tb
  have t0 : W.cell? ⟨w.heap.size, 0, none⟩ = some (.int .i64 t.kind) := blk_cell tb 0
  have t1 : W.cell? ⟨w.heap.size, 1, none⟩ = some (.int .i64 t.n) := blk_cell tb 1
  have t2 : W.cell? ⟨w.heap.size, 2, none⟩ = some (.int .i64 t.acc) := blk_cell tb 2
  have t3 : W.cell? ⟨w.heap.size, 3, none⟩ = some (.string t.name) := blk_cell tb 3
  have t4 : W.cell? ⟨w.heap.size, 4, none⟩ = some (.string t.text) := blk_cell tb 4
  have t5 : W.cell? ⟨w.heap.size, 5, none⟩ = some (.bool t.exec) := blk_cell tb 5
  clear hW
  rw [HK.out] at t0
  unfold obC nul at b1 b3
  unfold vlC nulV at b2 b4
  have HBx := Lib.hid hbx
  clear hbx hR5 hM5 _hMO hOM hb5 hM h tb
  go_upto_region 14 with fail
  obtain ⟨p0, p1, p2, p3, p4, p5, p6, p7⟩ := cellsOb b1
  obtain ⟨q0, q1, q2, q3, q4, q5, q6, q7, q8, q9, qf⟩ := cells10 b2
  obtain ⟨x0, x1, x2, x3, x4, x5, x6, x7⟩ := cellsOb b3
  obtain ⟨y0, y1, y2, y3, y4, y5, y6, y7, y8, y9, yf⟩ := cells10 b4
  have pf := blk_free b1
  have HB1 := Lib.hid b1
  have HB2 := Lib.hid b2
  clear b1 b2 b3 b4
  go_region
  all_goals go_wp2_with fail
  have hfin := (fin2 HB1.out HB2.out (by omega) (.int .i64 0) (.bool false) (.int .i64 0) (.int .i64 0) (.string ⟨#[]⟩) (.int .i64 0) (.int .i64 0) (.int .i64 0) (.int .i64 0) (.bool false) (.int .i64 0) (.int .i64 0) (.string ⟨#[]⟩) (.pointer none) (.pointer none) (.pointer none) (.int .i64 0) (.int .i64 0)).drew 1
  exact bodyPost_ret (results_bld Tryz.results13 _ _ (w.heap.size + 1) (w.heap.size + 1 + 1) rfl rfl rfl hfin.b1 hfin.b2) rfl ⟨nul, nulV, false, rfl, ⟨_, _, _, rfl, rfl, rfl⟩, hfin.frm HBx.out.1 (by omega) (by omega), fun e => by cases e⟩
set_option maxRecDepth 100000 in
set_option maxHeartbeats 1000000 in
theorem build_n7b {O : Nat → Prop} {w : World} {s M : Nat} (h : Rep O w s 500 []) (hM : w.heap[M]? = some (memC 500 0 (.slice none 0 0) (.slice none 0 0) (.slice none 0 0) 0)) (_hMO : ¬ O M) (t : Tg) (hbad : t.bad = false) (hk : t.kind = 7) (h0 : 20 < t.n) :
    Calls Tryz.prog 13 #[.pointer (some ⟨s, 0, none⟩), .pointer (some ⟨M, 0, none⟩), t.val] w (Bld O w s M t) := by
  have HBd := Lib.hid hbad
  obtain ⟨d1, d2, d3, d4, d5, d6⟩ := Tg.good hbad
  have hMlt : M < w.heap.size := (Array.getElem?_eq_some_iff.1 hM).1
  have hOM : ∀ k, OM O M k → k < w.heap.size := fun k hk => by rcases hk with e | e; exact h.olt k e; omega
  have hbx := five_bx (O := OM O M) t hOM
  have hb5 := five_below w t
  have hR5 := h.below hb5
  have hM5 := (hb5.block M hMlt).trans hM
  have HSz := Lib.hid (five_size w t)
  have HK := Lib.hid hk
  have g1 : decide (t.n < 0) = false := decide_eq_false (by omega)
  have g2 : decide (20 < t.n) = true := decide_eq_true h0
  clear hk h0
  unfold Tg.val
  clear hbad
  go_enter Tryz.func13, Tryz.ntmps13
  go_upto_region 6 with fail
  change Code.wp _ _ _ _ (five w t)
  generalize hW : five w t = W at *
  have hMW : M < W.heap.size := by have := HSz.out; omega
  obtain ⟨tb, b1, b2, b3, b4⟩ := boxes_at hbx
  unfold tgC at tb
  have t0 : W.cell? ⟨w.heap.size, 0, none⟩ = some (.int .i64 t.kind) := blk_cell tb 0
  have t1 : W.cell? ⟨w.heap.size, 1, none⟩ = some (.int .i64 t.n) := blk_cell tb 1
  have t2 : W.cell? ⟨w.heap.size, 2, none⟩ = some (.int .i64 t.acc) := blk_cell tb 2
  have t3 : W.cell? ⟨w.heap.size, 3, none⟩ = some (.string t.name) := blk_cell tb 3
  have t4 : W.cell? ⟨w.heap.size, 4, none⟩ = some (.string t.text) := blk_cell tb 4
  have t5 : W.cell? ⟨w.heap.size, 5, none⟩ = some (.bool t.exec) := blk_cell tb 5
  clear hW
  rw [HK.out] at t0
  unfold obC nul at b1 b3
  unfold vlC nulV at b2 b4
  have HBx := Lib.hid hbx
  clear hbx hR5 hM5 _hMO hOM hb5 hM h tb
  go_upto_region 14 with fail
  obtain ⟨p0, p1, p2, p3, p4, p5, p6, p7⟩ := cellsOb b1
  obtain ⟨q0, q1, q2, q3, q4, q5, q6, q7, q8, q9, qf⟩ := cells10 b2
  obtain ⟨x0, x1, x2, x3, x4, x5, x6, x7⟩ := cellsOb b3
  obtain ⟨y0, y1, y2, y3, y4, y5, y6, y7, y8, y9, yf⟩ := cells10 b4
  have pf := blk_free b1
  have HB1 := Lib.hid b1
  have HB2 := Lib.hid b2
  clear b1 b2 b3 b4
  go_region
  all_goals go_wp2_with fail
  have hfin := (fin2 HB1.out HB2.out (by omega) (.int .i64 0) (.bool false) (.int .i64 0) (.int .i64 0) (.string ⟨#[]⟩) (.int .i64 0) (.int .i64 0) (.int .i64 0) (.int .i64 0) (.bool false) (.int .i64 0) (.int .i64 0) (.string ⟨#[]⟩) (.pointer none) (.pointer none) (.pointer none) (.int .i64 0) (.int .i64 0)).drew 1
  exact bodyPost_ret (results_bld Tryz.results13 _ _ (w.heap.size + 1) (w.heap.size + 1 + 1) rfl rfl rfl hfin.b1 hfin.b2) rfl ⟨nul, nulV, false, rfl, ⟨_, _, _, rfl, rfl, rfl⟩, hfin.frm HBx.out.1 (by omega) (by omega), fun e => by cases e⟩
set_option maxRecDepth 100000 in
set_option maxHeartbeats 1000000 in
theorem build_n8a {O : Nat → Prop} {w : World} {s M : Nat} (h : Rep O w s 500 []) (hM : w.heap[M]? = some (memC 500 0 (.slice none 0 0) (.slice none 0 0) (.slice none 0 0) 0)) (_hMO : ¬ O M) (t : Tg) (hbad : t.bad = false) (hk : t.kind = 8) (h0 : t.n < 0) :
    Calls Tryz.prog 13 #[.pointer (some ⟨s, 0, none⟩), .pointer (some ⟨M, 0, none⟩), t.val] w (Bld O w s M t) := by
  have HBd := Lib.hid hbad
  obtain ⟨d1, d2, d3, d4, d5, d6⟩ := Tg.good hbad
  have hMlt : M < w.heap.size := (Array.getElem?_eq_some_iff.1 hM).1
  have hOM : ∀ k, OM O M k → k < w.heap.size := fun k hk => by rcases hk with e | e; exact h.olt k e; omega
  have hbx := five_bx (O := OM O M) t hOM
  have hb5 := five_below w t
  have hR5 := h.below hb5
  have hM5 := (hb5.block M hMlt).trans hM
  have HSz := Lib.hid (five_size w t)
  have HK := Lib.hid hk
  have g1 : decide (t.n < 0) = true := decide_eq_true h0
  clear hk h0
  unfold Tg.val
  clear hbad
  go_enter Tryz.func13, Tryz.ntmps13
  go_upto_region 6 with fail
  change Code.wp _ _ _ _ (five w t)
  generalize hW : five w t = W at *
  have hMW : M < W.heap.size := by have := HSz.out; omega
  obtain ⟨tb, b1, b2, b3, b4⟩ := boxes_at hbx
  unfold tgC at tb
  have t0 : W.cell? ⟨w.heap.size, 0, none⟩ = some (.int .i64 t.kind) := blk_cell tb 0
  have t1 : W.cell? ⟨w.heap.size, 1, none⟩ = some (.int .i64 t.n) := blk_cell tb 1
  have t2 : W.cell? ⟨w.heap.size, 2, none⟩ = some (.int .i64 t.acc) := blk_cell tb 2
  have t3 : W.cell? ⟨w.heap.size, 3, none⟩ = some (.string t.name) := blk_cell tb 3
  have t4 : W.cell? ⟨w.heap.size, 4, none⟩ = some (.string t.text) := blk_cell tb 4
  have t5 : W.cell? ⟨w.heap.size, 5, none⟩ = some (.bool t.exec) := blk_cell tb 5
  clear hW
  rw [HK.out] at t0
  unfold obC nul at b1 b3
  unfold vlC nulV at b2 b4
  have HBx := Lib.hid hbx
  clear hbx hR5 hM5 _hMO hOM hb5 hM h tb
  go_upto_region 19 with fail
  obtain ⟨p0, p1, p2, p3, p4, p5, p6, p7⟩ := cellsOb b1
  obtain ⟨q0, q1, q2, q3, q4, q5, q6, q7, q8, q9, qf⟩ := cells10 b2
  obtain ⟨x0, x1, x2, x3, x4, x5, x6, x7⟩ := cellsOb b3
  obtain ⟨y0, y1, y2, y3, y4, y5, y6, y7, y8, y9, yf⟩ := cells10 b4
  have pf := blk_free b1
  have HB1 := Lib.hid b1
  have HB2 := Lib.hid b2
  clear b1 b2 b3 b4
  go_region
  all_goals go_wp2_with fail
  have hfin := (fin2 HB1.out HB2.out (by omega) (.int .i64 0) (.bool false) (.int .i64 0) (.int .i64 0) (.string ⟨#[]⟩) (.int .i64 0) (.int .i64 0) (.int .i64 0) (.int .i64 0) (.bool false) (.int .i64 0) (.int .i64 0) (.string ⟨#[]⟩) (.pointer none) (.pointer none) (.pointer none) (.int .i64 0) (.int .i64 0)).drew 1
  exact bodyPost_ret (results_bld Tryz.results13 _ _ (w.heap.size + 1) (w.heap.size + 1 + 1) rfl rfl rfl hfin.b1 hfin.b2) rfl ⟨nul, nulV, false, rfl, ⟨_, _, _, rfl, rfl, rfl⟩, hfin.frm HBx.out.1 (by omega) (by omega), fun e => by cases e⟩
set_option maxRecDepth 100000 in
set_option maxHeartbeats 1000000 in
theorem build_n8b {O : Nat → Prop} {w : World} {s M : Nat} (h : Rep O w s 500 []) (hM : w.heap[M]? = some (memC 500 0 (.slice none 0 0) (.slice none 0 0) (.slice none 0 0) 0)) (_hMO : ¬ O M) (t : Tg) (hbad : t.bad = false) (hk : t.kind = 8) (h0 : 20 < t.n) :
    Calls Tryz.prog 13 #[.pointer (some ⟨s, 0, none⟩), .pointer (some ⟨M, 0, none⟩), t.val] w (Bld O w s M t) := by
  have HBd := Lib.hid hbad
  obtain ⟨d1, d2, d3, d4, d5, d6⟩ := Tg.good hbad
  have hMlt : M < w.heap.size := (Array.getElem?_eq_some_iff.1 hM).1
  have hOM : ∀ k, OM O M k → k < w.heap.size := fun k hk => by rcases hk with e | e; exact h.olt k e; omega
  have hbx := five_bx (O := OM O M) t hOM
  have hb5 := five_below w t
  have hR5 := h.below hb5
  have hM5 := (hb5.block M hMlt).trans hM
  have HSz := Lib.hid (five_size w t)
  have HK := Lib.hid hk
  have g1 : decide (t.n < 0) = false := decide_eq_false (by omega)
  have g2 : decide (20 < t.n) = true := decide_eq_true h0
  clear hk h0
  unfold Tg.val
  clear hbad
  go_enter Tryz.func13, Tryz.ntmps13
  go_upto_region 6 with fail
  change Code.wp _ _ _ _ (five w t)
  generalize hW : five w t = W at *
  have hMW : M < W.heap.size := by have := HSz.out; omega
  obtain ⟨tb, b1, b2, b3, b4⟩ := boxes_at hbx
  unfold tgC at tb
  have t0 : W.cell? ⟨w.heap.size, 0, none⟩ = some (.int .i64 t.kind) := blk_cell tb 0
  have t1 : W.cell? ⟨w.heap.size, 1, none⟩ = some (.int .i64 t.n) := blk_cell tb 1
  have t2 : W.cell? ⟨w.heap.size, 2, none⟩ = some (.int .i64 t.acc) := blk_cell tb 2
  have t3 : W.cell? ⟨w.heap.size, 3, none⟩ = some (.string t.name) := blk_cell tb 3
  have t4 : W.cell? ⟨w.heap.size, 4, none⟩ = some (.string t.text) := blk_cell tb 4
  have t5 : W.cell? ⟨w.heap.size, 5, none⟩ = some (.bool t.exec) := blk_cell tb 5
  clear hW
  rw [HK.out] at t0
  unfold obC nul at b1 b3
  unfold vlC nulV at b2 b4
  have HBx := Lib.hid hbx
  clear hbx hR5 hM5 _hMO hOM hb5 hM h tb
  go_upto_region 19 with fail
  obtain ⟨p0, p1, p2, p3, p4, p5, p6, p7⟩ := cellsOb b1
  obtain ⟨q0, q1, q2, q3, q4, q5, q6, q7, q8, q9, qf⟩ := cells10 b2
  obtain ⟨x0, x1, x2, x3, x4, x5, x6, x7⟩ := cellsOb b3
  obtain ⟨y0, y1, y2, y3, y4, y5, y6, y7, y8, y9, yf⟩ := cells10 b4
  have pf := blk_free b1
  have HB1 := Lib.hid b1
  have HB2 := Lib.hid b2
  clear b1 b2 b3 b4
  go_region
  all_goals go_wp2_with fail
  have hfin := (fin2 HB1.out HB2.out (by omega) (.int .i64 0) (.bool false) (.int .i64 0) (.int .i64 0) (.string ⟨#[]⟩) (.int .i64 0) (.int .i64 0) (.int .i64 0) (.int .i64 0) (.bool false) (.int .i64 0) (.int .i64 0) (.string ⟨#[]⟩) (.pointer none) (.pointer none) (.pointer none) (.int .i64 0) (.int .i64 0)).drew 1
  exact bodyPost_ret (results_bld Tryz.results13 _ _ (w.heap.size + 1) (w.heap.size + 1 + 1) rfl rfl rfl hfin.b1 hfin.b2) rfl ⟨nul, nulV, false, rfl, ⟨_, _, _, rfl, rfl, rfl⟩, hfin.frm HBx.out.1 (by omega) (by omega), fun e => by cases e⟩
end Cn
end Go.Proofs.YtfilbfenpdaahaaGreatDoor
