/-
  A thing of one kind that is made in both: law10.build, by a contract.
-/
import Derived.Test.YtfilbfenpdaahaaGreatDoorCnvBuild
namespace Go.Proofs.YtfilbfenpdaahaaGreatDoor
open Go.RowKit
open St
open Col
open Mm
namespace Cn
/-- what is carried on: the store -/
def Car0 (O2 : Nat → Prop) (s : Nat) (G : List (Th × Lay)) (W : World) : Prop := ∃ fr, Rep O2 W s fr G
theorem Car0.put {O O2 : Nat → Prop} {w : World} {s : Nat} {G : List (Th × Lay)} {W W' : World} (h : Car0 O2 s G W) (hO2 : ∀ k, O2 k → O k ∨ w.heap.size + 5 ≤ k) (hO : ∀ k, O k → k < w.heap.size) (hf : ∀ k, (k < w.heap.size ∨ w.heap.size + 5 ≤ k) → W'.heap[k]? = W.heap[k]?) (hs : W'.heap.size = W.heap.size) : Car0 O2 s G W' := by
  obtain ⟨fr, hr⟩ := h
  exact ⟨fr, hr.same (by rw [hs]; exact Nat.le_refl _) (fun k _ hk => hf k (by rcases hO2 k hk with e | e; exact .inl (hO k e); exact .inr e))⟩
set_option maxRecDepth 100000 in
set_option maxHeartbeats 1000000 in
theorem build_0 {O : Nat → Prop} {w : World} {s M : Nat} (h : Rep O w s 500 []) (hM : w.heap[M]? = some (memC 500 0 (.slice none 0 0) (.slice none 0 0) (.slice none 0 0) 0)) (hMO : ¬ O M) (t : Tg) (hbad : t.bad = false) (hk6 : t.kind ≠ 6) (hk7 : t.kind ≠ 7) (hk8 : t.kind ≠ 8) :
    Calls Tryz.prog 13 #[.pointer (some ⟨s, 0, none⟩), .pointer (some ⟨M, 0, none⟩), t.val] w (Bld O w s M t) := by
  have HBd := Lib.hid hbad
  obtain ⟨d1, d2, d3, d4, d5, d6⟩ := Tg.good hbad
  have hMlt : M < w.heap.size := (Array.getElem?_eq_some_iff.1 hM).1
  have hOM : ∀ k, OM O M k → k < w.heap.size := fun k hk => by rcases hk with e | e; exact h.olt k e; omega
  have hbx := five_bx (O := OM O M) t hOM
  have hb5 := five_below w t
  have hR5 := h.below hb5
  have hM5 := (hb5.block M hMlt).trans hM
  have HSz := Lib.hid (five_size w t)
  have HK := Lib.hid (And.intro hk6 (And.intro hk7 hk8))
  have n6 : (t.kind == 6) = false := by simp [hk6]
  have n7 : (t.kind == 7) = false := by simp [hk7]
  have n8 : (t.kind == 8) = false := by simp [hk8]
  clear hk6 hk7 hk8
  unfold Tg.val
  clear hbad
  go_enter Tryz.func13, Tryz.ntmps13
  go_upto_region 6 with fail
  change Code.wp _ _ _ _ (five w t)
  generalize hW : five w t = W at *
  have hMW : M < W.heap.size := by have := HSz.out; omega
  obtain ⟨tb, b1, b2, b3, b4⟩ := boxes_at hbx
  unfold tgC at tb
  have t0 : W.cell? ⟨w.heap.size, 0, none⟩ = some (.int .i64 t.kind) := blk_cell tb 0
  have t1 : W.cell? ⟨w.heap.size, 1, none⟩ = some (.int .i64 t.n) := blk_cell tb 1
  have t2 : W.cell? ⟨w.heap.size, 2, none⟩ = some (.int .i64 t.acc) := blk_cell tb 2
  have t3 : W.cell? ⟨w.heap.size, 3, none⟩ = some (.string t.name) := blk_cell tb 3
  have t4 : W.cell? ⟨w.heap.size, 4, none⟩ = some (.string t.text) := blk_cell tb 4
  have t5 : W.cell? ⟨w.heap.size, 5, none⟩ = some (.bool t.exec) := blk_cell tb 5
  clear hW
  have hlt := h.olt
  have HH := Lib.hid (And.intro hMO (And.intro hOM (And.intro hMlt (And.intro hb5 hlt))))
  have HO2 := Lib.hid (show ∀ k, O k → O k ∨ w.heap.size + 5 ≤ k from fun k hk => .inl hk)
  have HR := Lib.hid (show Car0 O s [] W from ⟨_, hR5⟩)
  have HBx := Lib.hid hbx
  unfold obC nul at b3
  obtain ⟨x0, x1, x2, x3, x4, x5, x6, x7⟩ := cellsOb b3
  have xf := blk_free b3
  have HB3 := Lib.hid b3
  unfold vlC nulV at b4
  obtain ⟨y0, y1, y2, y3, y4, y5, y6, y7, y8, y9, yf⟩ := cells10 b4
  have HB4 := Lib.hid b4
  clear hbx hR5 hM5 hMO hOM hb5 hM h hlt tb b1 b2 b3 b4
  go_upto_region 8 with fail
  have hp := put8 HB3.out (.int .i64 t.kind) (.bool false) (.int .i64 0) (.int .i64 t.n) (.string t.name) (.int .i64 0) (.int .i64 0) (.int .i64 0)
  generalize hW3 : ((((((((W.setCell ⟨w.heap.size + 1 + 1 + 1, 0, none⟩ (.int .i64 t.kind)).setCell ⟨w.heap.size + 1 + 1 + 1, 1, none⟩ (.bool false)).setCell ⟨w.heap.size + 1 + 1 + 1, 2, none⟩ (.int .i64 0)).setCell ⟨w.heap.size + 1 + 1 + 1, 3, none⟩ (.int .i64 t.n)).setCell ⟨w.heap.size + 1 + 1 + 1, 4, none⟩ (.string t.name)).setCell ⟨w.heap.size + 1 + 1 + 1, 5, none⟩ (.int .i64 0)).setCell ⟨w.heap.size + 1 + 1 + 1, 6, none⟩ (.int .i64 0)).setCell ⟨w.heap.size + 1 + 1 + 1, 7, none⟩ (.int .i64 0)) = W3 at hp ⊢
  clear hW3
  have hbx3 := boxes_o (o' := ⟨t.kind, false, 0, t.n, t.name, 0, 0, 0⟩) HBx.out hp.blk hp.far hp.size hp.os hp.tape hp.output
  have HR3 := Lib.hid (Car0.put HR.out HO2.out HH.out.2.2.2.2 (fun k h1 => hp.far k (by omega)) hp.size)
  clear hp HR HBx x0 x1 x2 x3 x4 x5 x6 x7 xf HB3 y0 y1 y2 y3 y4 y5 y6 y7 y8 y9 yf HB4 t0 t1 t2 t3 t4 t5
  obtain ⟨tb, b1, b2, b3, b4⟩ := boxes_at hbx3
  unfold tgC at tb
  have t0 : W3.cell? ⟨w.heap.size, 0, none⟩ = some (.int .i64 t.kind) := blk_cell tb 0
  have t1 : W3.cell? ⟨w.heap.size, 1, none⟩ = some (.int .i64 t.n) := blk_cell tb 1
  have t3 : W3.cell? ⟨w.heap.size, 3, none⟩ = some (.string t.name) := blk_cell tb 3
  unfold vlC nulV at b4
  obtain ⟨y0, y1, y2, y3, y4, y5, y6, y7, y8, y9, yf⟩ := cells10 b4
  have HB4 := Lib.hid b4
  have HBx := Lib.hid hbx3
  clear hbx3 tb b1 b2 b3 b4
  go_upto_region 25 with fail
  have hp := put10 HB4.out (.int .i64 t.kind) (.bool false) (.int .i64 0) (.int .i64 t.n) (.string t.name) (.pointer none) (.pointer none) (.pointer none) (.int .i64 0) (.int .i64 0)
  generalize hW6 : ((((((((((W3.setCell ⟨w.heap.size + 1 + 1 + 1 + 1, 0, none⟩ (.int .i64 t.kind)).setCell ⟨w.heap.size + 1 + 1 + 1 + 1, 1, none⟩ (.bool false)).setCell ⟨w.heap.size + 1 + 1 + 1 + 1, 2, none⟩ (.int .i64 0)).setCell ⟨w.heap.size + 1 + 1 + 1 + 1, 3, none⟩ (.int .i64 t.n)).setCell ⟨w.heap.size + 1 + 1 + 1 + 1, 4, none⟩ (.string t.name)).setCell ⟨w.heap.size + 1 + 1 + 1 + 1, 5, none⟩ (.pointer none)).setCell ⟨w.heap.size + 1 + 1 + 1 + 1, 6, none⟩ (.pointer none)).setCell ⟨w.heap.size + 1 + 1 + 1 + 1, 7, none⟩ (.pointer none)).setCell ⟨w.heap.size + 1 + 1 + 1 + 1, 8, none⟩ (.int .i64 0)).setCell ⟨w.heap.size + 1 + 1 + 1 + 1, 9, none⟩ (.int .i64 0)) = W6 at hp ⊢
  have hbx := boxes_v (v' := ⟨t.kind, false, 0, t.n, t.name, .pointer none, .pointer none, .pointer none, 0, 0⟩) HBx.out hp.blk hp.far hp.size hp.os hp.tape hp.output
  have HF := Lib.hid (Car0.put HR3.out HO2.out HH.out.2.2.2.2 (fun k h1 => hp.far k (by omega)) hp.size)
  clear hp hW6 t0 t1 t3 y0 y1 y2 y3 y4 y5 y6 y7 y8 y9 yf HB4 HBx HR3
  obtain ⟨tb, b1, b2, b3, b4⟩ := boxes_at hbx
  unfold tgC at tb
  have u0 : W6.cell? ⟨w.heap.size, 0, none⟩ = some (.int .i64 t.kind) := blk_cell tb 0
  have u2 : W6.cell? ⟨w.heap.size, 2, none⟩ = some (.int .i64 t.acc) := blk_cell tb 2
  have u5 : W6.cell? ⟨w.heap.size, 5, none⟩ = some (.bool t.exec) := blk_cell tb 5
  unfold obC nul at b1
  unfold obC at b3
  unfold vlC nulV at b2
  unfold vlC at b4
  obtain ⟨x0, x1, x2, x3, x4, x5, x6, x7⟩ := cellsOb b3
  have xf := blk_free b3
  obtain ⟨y0, y1, y2, y3, y4, y5, y6, y7, y8, y9, yf⟩ := cells10 b4
  have HB3 := Lib.hid b3
  have HB4 := Lib.hid b4
  have HB1 := Lib.hid b1
  have HB2 := Lib.hid b2
  have HBX := Lib.hid hbx
  clear tb b1 b2 b3 b4 hbx
  go_upto_region 27 with fail
  go_region
  go_upto_region 28 with fail
  generalize hWx : ((W6.setCell ⟨w.heap.size + 1 + 1 + 1, 1, none⟩ (.bool t.exec)).setCell ⟨w.heap.size + 1 + 1 + 1 + 1, 1, none⟩ (.bool t.exec)).drew = We at *
  have hA : Bx (OM O M) w (boxes w t (obC nul) (vlC nulV) ⟨t.kind, t.exec, 0, t.n, t.name, 0, 0, 0⟩ ⟨t.kind, false, 0, t.n, t.name, .pointer none, .pointer none, .pointer none, 0, 0⟩) (W6.setCell ⟨w.heap.size + 1 + 1 + 1, 1, none⟩ (.bool t.exec)) := boxes_o (o' := ⟨t.kind, t.exec, 0, t.n, t.name, 0, 0, 0⟩) HBX.out (blk_set HB3.out 1 (.bool t.exec)) (fun k hk => blk_far hk _) (setC_size _ _ _) rfl rfl rfl
  have hbx : Bx (OM O M) w (boxes w t (obC nul) (vlC nulV) ⟨t.kind, t.exec, 0, t.n, t.name, 0, 0, 0⟩ ⟨t.kind, t.exec, 0, t.n, t.name, .pointer none, .pointer none, .pointer none, 0, 0⟩) We := by
    rw [← hWx]
    exact (boxes_v (v' := ⟨t.kind, t.exec, 0, t.n, t.name, .pointer none, .pointer none, .pointer none, 0, 0⟩) hA (blk_set ((blk_far (by omega) _).trans HB4.out) 1 (.bool t.exec)) (fun k hk => blk_far hk _) (setC_size _ _ _) rfl rfl rfl).drews 1
  have hfar : ∀ k, (k < w.heap.size ∨ w.heap.size + 5 ≤ k) → We.heap[k]? = W6.heap[k]? := fun k h1 => by
    rw [← hWx]
    exact (blk_far (by omega) _).trans (blk_far (by omega) _)
  have hsz : We.heap.size = W6.heap.size := by
    rw [← hWx]
    show ((_ : World).setCell _ _).heap.size = _
    rw [setC_size, setC_size]
  clear hWx hA
  clear u0 u2 u5 x0 x1 x2 x3 x4 x5 x6 x7 xf y0 y1 y2 y3 y4 y5 y6 y7 y8 y9 yf HB3 HB4 HB1 HB2
  have HC := Lib.hid (Car0.put HF.out HO2.out HH.out.2.2.2.2 hfar hsz)
  clear HF hfar hsz HBX
  have HF := Lib.hid HC.out
  clear HC
  obtain ⟨tb, b1, b2, b3, b4⟩ := boxes_at hbx
  unfold tgC at tb
  have u0 : We.cell? ⟨w.heap.size, 0, none⟩ = some (.int .i64 t.kind) := blk_cell tb 0
  have u2 : We.cell? ⟨w.heap.size, 2, none⟩ = some (.int .i64 t.acc) := blk_cell tb 2
  have u5 : We.cell? ⟨w.heap.size, 5, none⟩ = some (.bool t.exec) := blk_cell tb 5
  unfold obC nul at b1
  unfold obC at b3
  unfold vlC nulV at b2
  unfold vlC at b4
  obtain ⟨x0, x1, x2, x3, x4, x5, x6, x7⟩ := cellsOb b3
  have xf := blk_free b3
  obtain ⟨y0, y1, y2, y3, y4, y5, y6, y7, y8, y9, yf⟩ := cells10 b4
  have HB3 := Lib.hid b3
  have HB4 := Lib.hid b4
  have HB1 := Lib.hid b1
  have HB2 := Lib.hid b2
  have HBX := Lib.hid hbx
  clear tb b1 b2 b3 b4 hbx
  have sI := And.intro x0 (And.intro x1 (And.intro x2 (And.intro x3 (And.intro x4 (And.intro x5 (And.intro x6 (And.intro x7 (And.intro y0 (And.intro y1 (And.intro y2 (And.intro y3 (And.intro y4 (And.intro y5 (And.intro y6 (And.intro y7 (And.intro y8 y9))))))))))))))))
  obtain ⟨p0, p1, p2, p3, p4, p5, p6, p7⟩ := cellsOb HB1.out
  have pf := blk_free HB1.out
  obtain ⟨q0, q1, q2, q3, q4, q5, q6, q7, q8, q9, qf⟩ := cells10 HB2.out
  have sD : We.drew.cell? ⟨w.heap.size + 1 + 1 + 1, 0, none⟩ = some (.int .i64 t.kind) ∧ We.drew.cell? ⟨w.heap.size + 1 + 1 + 1, 1, none⟩ = some (.bool t.exec) ∧ We.drew.cell? ⟨w.heap.size + 1 + 1 + 1, 2, none⟩ = some (.int .i64 0) ∧ We.drew.cell? ⟨w.heap.size + 1 + 1 + 1, 3, none⟩ = some (.int .i64 t.n) ∧ We.drew.cell? ⟨w.heap.size + 1 + 1 + 1, 4, none⟩ = some (.string t.name) ∧ We.drew.cell? ⟨w.heap.size + 1 + 1 + 1, 5, none⟩ = some (.int .i64 0) ∧ We.drew.cell? ⟨w.heap.size + 1 + 1 + 1, 6, none⟩ = some (.int .i64 0) ∧ We.drew.cell? ⟨w.heap.size + 1 + 1 + 1, 7, none⟩ = some (.int .i64 0) ∧ We.drew.cell? ⟨w.heap.size + 1 + 1 + 1 + 1, 0, none⟩ = some (.int .i64 t.kind) ∧ We.drew.cell? ⟨w.heap.size + 1 + 1 + 1 + 1, 1, none⟩ = some (.bool t.exec) ∧ We.drew.cell? ⟨w.heap.size + 1 + 1 + 1 + 1, 2, none⟩ = some (.int .i64 0) ∧ We.drew.cell? ⟨w.heap.size + 1 + 1 + 1 + 1, 3, none⟩ = some (.int .i64 t.n) ∧ We.drew.cell? ⟨w.heap.size + 1 + 1 + 1 + 1, 4, none⟩ = some (.string t.name) ∧ We.drew.cell? ⟨w.heap.size + 1 + 1 + 1 + 1, 5, none⟩ = some (.pointer none) ∧ We.drew.cell? ⟨w.heap.size + 1 + 1 + 1 + 1, 6, none⟩ = some (.pointer none) ∧ We.drew.cell? ⟨w.heap.size + 1 + 1 + 1 + 1, 7, none⟩ = some (.pointer none) ∧ We.drew.cell? ⟨w.heap.size + 1 + 1 + 1 + 1, 8, none⟩ = some (.int .i64 0) ∧ We.drew.cell? ⟨w.heap.size + 1 + 1 + 1 + 1, 9, none⟩ = some (.int .i64 0) := sI
  go_region_held3 (fun w' => w'.cell? ⟨w.heap.size + 1 + 1 + 1, 0, none⟩ = some (.int .i64 t.kind) ∧ w'.cell? ⟨w.heap.size + 1 + 1 + 1, 1, none⟩ = some (.bool t.exec) ∧ w'.cell? ⟨w.heap.size + 1 + 1 + 1, 2, none⟩ = some (.int .i64 0) ∧ w'.cell? ⟨w.heap.size + 1 + 1 + 1, 3, none⟩ = some (.int .i64 t.n) ∧ w'.cell? ⟨w.heap.size + 1 + 1 + 1, 4, none⟩ = some (.string t.name) ∧ w'.cell? ⟨w.heap.size + 1 + 1 + 1, 5, none⟩ = some (.int .i64 0) ∧ w'.cell? ⟨w.heap.size + 1 + 1 + 1, 6, none⟩ = some (.int .i64 0) ∧ w'.cell? ⟨w.heap.size + 1 + 1 + 1, 7, none⟩ = some (.int .i64 0) ∧ w'.cell? ⟨w.heap.size + 1 + 1 + 1 + 1, 0, none⟩ = some (.int .i64 t.kind) ∧ w'.cell? ⟨w.heap.size + 1 + 1 + 1 + 1, 1, none⟩ = some (.bool t.exec) ∧ w'.cell? ⟨w.heap.size + 1 + 1 + 1 + 1, 2, none⟩ = some (.int .i64 0) ∧ w'.cell? ⟨w.heap.size + 1 + 1 + 1 + 1, 3, none⟩ = some (.int .i64 t.n) ∧ w'.cell? ⟨w.heap.size + 1 + 1 + 1 + 1, 4, none⟩ = some (.string t.name) ∧ w'.cell? ⟨w.heap.size + 1 + 1 + 1 + 1, 5, none⟩ = some (.pointer none) ∧ w'.cell? ⟨w.heap.size + 1 + 1 + 1 + 1, 6, none⟩ = some (.pointer none) ∧ w'.cell? ⟨w.heap.size + 1 + 1 + 1 + 1, 7, none⟩ = some (.pointer none) ∧ w'.cell? ⟨w.heap.size + 1 + 1 + 1 + 1, 8, none⟩ = some (.int .i64 0) ∧ w'.cell? ⟨w.heap.size + 1 + 1 + 1 + 1, 9, none⟩ = some (.int .i64 0)) (first | with_reducible exact sD | with_reducible exact sI | with_reducible exact keep18a sI | with_reducible exact keep18b sI | with_reducible exact keep18a sI | with_reducible exact keep18b sI | fail) (fail)
  go_wp2_with fail
  have hfin := (fin2 HB1.out HB2.out (by omega) (.int .i64 t.kind) (.bool t.exec) (.int .i64 0) (.int .i64 t.n) (.string t.name) (.int .i64 0) (.int .i64 0) (.int .i64 0) (.int .i64 t.kind) (.bool t.exec) (.int .i64 0) (.int .i64 t.n) (.string t.name) (.pointer none) (.pointer none) (.pointer none) (.int .i64 0) (.int .i64 0)).drew 1
  have hfar : ∀ k, (k < w.heap.size ∨ w.heap.size + 5 ≤ k) → _ = We.heap[k]? := fun k h1 => hfin.far k (by omega) (by omega)
  refine bodyPost_ret (results_bld Tryz.results13 _ _ (w.heap.size + 1) (w.heap.size + 1 + 1) rfl rfl rfl hfin.b1 hfin.b2) rfl ⟨⟨t.kind, t.exec, 0, t.n, t.name, 0, 0, 0⟩, ⟨t.kind, t.exec, 0, t.n, t.name, .pointer none, .pointer none, .pointer none, 0, 0⟩, true, rfl, ⟨_, _, _, rfl, rfl, rfl⟩, hfin.frm HBX.out.1 (by omega) (by omega), fun _ => ?_⟩
  obtain ⟨fr, hr⟩ := Car0.put HF.out HO2.out HH.out.2.2.2.2 hfar hfin.size
  exact ⟨O, fr, _, hr, fun k hk => .inl hk, HBd.out, Or.inr (Or.inr (Or.inr ⟨HK.out.1, HK.out.2.1, HK.out.2.2, rfl, rfl, rfl⟩))⟩
end Cn
end Go.Proofs.YtfilbfenpdaahaaGreatDoor
