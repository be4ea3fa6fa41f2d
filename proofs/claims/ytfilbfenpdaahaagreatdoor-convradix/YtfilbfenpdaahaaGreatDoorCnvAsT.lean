/-
  A thing's text is laid into a string (asText), by a contract.
-/
import Derived.Test.YtfilbfenpdaahaaGreatDoorCnvLay
import Derived.Test.YtfilbfenpdaahaaGreatDoorCnvText
namespace Go.Proofs.YtfilbfenpdaahaaGreatDoor
open Go.RowKit
open St
open Stk
open Col
namespace Cv
theorem keepS1 {W : World} {bp op B ba oa0 oa1 oa2 oa3 oa4 oa5 oa6 oa7 : Nat} {p e0 e1 e2 e3 e4 e5 e6 e7 ua0 ua1 ua2 ua3 ua4 ua5 ua6 ua7 : Value} (hp : bp ≠ B) (ha : ba ≠ B)
    (h : W.cell? ⟨bp, op, none⟩ = some p ∧ (W.cell? ⟨ba, oa0, none⟩ = some ua0 ∧ W.cell? ⟨ba, oa1, none⟩ = some ua1 ∧ W.cell? ⟨ba, oa2, none⟩ = some ua2 ∧ W.cell? ⟨ba, oa3, none⟩ = some ua3 ∧ W.cell? ⟨ba, oa4, none⟩ = some ua4 ∧ W.cell? ⟨ba, oa5, none⟩ = some ua5 ∧ W.cell? ⟨ba, oa6, none⟩ = some ua6 ∧ W.cell? ⟨ba, oa7, none⟩ = some ua7)) :
    ((((((((W.setCell ⟨B, 0, none⟩ e0).setCell ⟨B, 1, none⟩ e1).setCell ⟨B, 2, none⟩ e2).setCell ⟨B, 3, none⟩ e3).setCell ⟨B, 4, none⟩ e4).setCell ⟨B, 5, none⟩ e5).setCell ⟨B, 6, none⟩ e6).setCell ⟨B, 7, none⟩ e7).cell? ⟨bp, op, none⟩ = some p ∧ (((((((((W.setCell ⟨B, 0, none⟩ e0).setCell ⟨B, 1, none⟩ e1).setCell ⟨B, 2, none⟩ e2).setCell ⟨B, 3, none⟩ e3).setCell ⟨B, 4, none⟩ e4).setCell ⟨B, 5, none⟩ e5).setCell ⟨B, 6, none⟩ e6).setCell ⟨B, 7, none⟩ e7).cell? ⟨ba, oa0, none⟩ = some ua0 ∧ ((((((((W.setCell ⟨B, 0, none⟩ e0).setCell ⟨B, 1, none⟩ e1).setCell ⟨B, 2, none⟩ e2).setCell ⟨B, 3, none⟩ e3).setCell ⟨B, 4, none⟩ e4).setCell ⟨B, 5, none⟩ e5).setCell ⟨B, 6, none⟩ e6).setCell ⟨B, 7, none⟩ e7).cell? ⟨ba, oa1, none⟩ = some ua1 ∧ ((((((((W.setCell ⟨B, 0, none⟩ e0).setCell ⟨B, 1, none⟩ e1).setCell ⟨B, 2, none⟩ e2).setCell ⟨B, 3, none⟩ e3).setCell ⟨B, 4, none⟩ e4).setCell ⟨B, 5, none⟩ e5).setCell ⟨B, 6, none⟩ e6).setCell ⟨B, 7, none⟩ e7).cell? ⟨ba, oa2, none⟩ = some ua2 ∧ ((((((((W.setCell ⟨B, 0, none⟩ e0).setCell ⟨B, 1, none⟩ e1).setCell ⟨B, 2, none⟩ e2).setCell ⟨B, 3, none⟩ e3).setCell ⟨B, 4, none⟩ e4).setCell ⟨B, 5, none⟩ e5).setCell ⟨B, 6, none⟩ e6).setCell ⟨B, 7, none⟩ e7).cell? ⟨ba, oa3, none⟩ = some ua3 ∧ ((((((((W.setCell ⟨B, 0, none⟩ e0).setCell ⟨B, 1, none⟩ e1).setCell ⟨B, 2, none⟩ e2).setCell ⟨B, 3, none⟩ e3).setCell ⟨B, 4, none⟩ e4).setCell ⟨B, 5, none⟩ e5).setCell ⟨B, 6, none⟩ e6).setCell ⟨B, 7, none⟩ e7).cell? ⟨ba, oa4, none⟩ = some ua4 ∧ ((((((((W.setCell ⟨B, 0, none⟩ e0).setCell ⟨B, 1, none⟩ e1).setCell ⟨B, 2, none⟩ e2).setCell ⟨B, 3, none⟩ e3).setCell ⟨B, 4, none⟩ e4).setCell ⟨B, 5, none⟩ e5).setCell ⟨B, 6, none⟩ e6).setCell ⟨B, 7, none⟩ e7).cell? ⟨ba, oa5, none⟩ = some ua5 ∧ ((((((((W.setCell ⟨B, 0, none⟩ e0).setCell ⟨B, 1, none⟩ e1).setCell ⟨B, 2, none⟩ e2).setCell ⟨B, 3, none⟩ e3).setCell ⟨B, 4, none⟩ e4).setCell ⟨B, 5, none⟩ e5).setCell ⟨B, 6, none⟩ e6).setCell ⟨B, 7, none⟩ e7).cell? ⟨ba, oa6, none⟩ = some ua6 ∧ ((((((((W.setCell ⟨B, 0, none⟩ e0).setCell ⟨B, 1, none⟩ e1).setCell ⟨B, 2, none⟩ e2).setCell ⟨B, 3, none⟩ e3).setCell ⟨B, 4, none⟩ e4).setCell ⟨B, 5, none⟩ e5).setCell ⟨B, 6, none⟩ e6).setCell ⟨B, 7, none⟩ e7).cell? ⟨ba, oa7, none⟩ = some ua7) := by
  obtain ⟨q, ⟨ma0, ma1, ma2, ma3, ma4, ma5, ma6, ma7⟩⟩ := h
  have hk : ∀ {q j : Nat} {u : Value}, q ≠ B → W.cell? ⟨q, j, none⟩ = some u → ((((((((W.setCell ⟨B, 0, none⟩ e0).setCell ⟨B, 1, none⟩ e1).setCell ⟨B, 2, none⟩ e2).setCell ⟨B, 3, none⟩ e3).setCell ⟨B, 4, none⟩ e4).setCell ⟨B, 5, none⟩ e5).setCell ⟨B, 6, none⟩ e6).setCell ⟨B, 7, none⟩ e7).cell? ⟨q, j, none⟩ = some u := fun hq hu => (World.cell?_of_block (by rw [blk_far hq, blk_far hq, blk_far hq, blk_far hq, blk_far hq, blk_far hq, blk_far hq, blk_far hq])).trans hu
  exact ⟨hk hp q, ⟨hk ha ma0, hk ha ma1, hk ha ma2, hk ha ma3, hk ha ma4, hk ha ma5, hk ha ma6, hk ha ma7⟩⟩
theorem keepS2 {W : World} {bp op B ba oa0 oa1 oa2 oa3 oa4 oa5 oa6 oa7 bb ob0 ob1 ob2 ob3 ob4 ob5 ob6 ob7 : Nat} {p e0 e1 e2 e3 e4 e5 e6 e7 ua0 ua1 ua2 ua3 ua4 ua5 ua6 ua7 ub0 ub1 ub2 ub3 ub4 ub5 ub6 ub7 : Value} (hp : bp ≠ B) (ha : ba ≠ B) (hb : bb ≠ B)
    (h : W.cell? ⟨bp, op, none⟩ = some p ∧ (W.cell? ⟨ba, oa0, none⟩ = some ua0 ∧ W.cell? ⟨ba, oa1, none⟩ = some ua1 ∧ W.cell? ⟨ba, oa2, none⟩ = some ua2 ∧ W.cell? ⟨ba, oa3, none⟩ = some ua3 ∧ W.cell? ⟨ba, oa4, none⟩ = some ua4 ∧ W.cell? ⟨ba, oa5, none⟩ = some ua5 ∧ W.cell? ⟨ba, oa6, none⟩ = some ua6 ∧ W.cell? ⟨ba, oa7, none⟩ = some ua7) ∧ (W.cell? ⟨bb, ob0, none⟩ = some ub0 ∧ W.cell? ⟨bb, ob1, none⟩ = some ub1 ∧ W.cell? ⟨bb, ob2, none⟩ = some ub2 ∧ W.cell? ⟨bb, ob3, none⟩ = some ub3 ∧ W.cell? ⟨bb, ob4, none⟩ = some ub4 ∧ W.cell? ⟨bb, ob5, none⟩ = some ub5 ∧ W.cell? ⟨bb, ob6, none⟩ = some ub6 ∧ W.cell? ⟨bb, ob7, none⟩ = some ub7)) :
    ((((((((W.setCell ⟨B, 0, none⟩ e0).setCell ⟨B, 1, none⟩ e1).setCell ⟨B, 2, none⟩ e2).setCell ⟨B, 3, none⟩ e3).setCell ⟨B, 4, none⟩ e4).setCell ⟨B, 5, none⟩ e5).setCell ⟨B, 6, none⟩ e6).setCell ⟨B, 7, none⟩ e7).cell? ⟨bp, op, none⟩ = some p ∧ (((((((((W.setCell ⟨B, 0, none⟩ e0).setCell ⟨B, 1, none⟩ e1).setCell ⟨B, 2, none⟩ e2).setCell ⟨B, 3, none⟩ e3).setCell ⟨B, 4, none⟩ e4).setCell ⟨B, 5, none⟩ e5).setCell ⟨B, 6, none⟩ e6).setCell ⟨B, 7, none⟩ e7).cell? ⟨ba, oa0, none⟩ = some ua0 ∧ ((((((((W.setCell ⟨B, 0, none⟩ e0).setCell ⟨B, 1, none⟩ e1).setCell ⟨B, 2, none⟩ e2).setCell ⟨B, 3, none⟩ e3).setCell ⟨B, 4, none⟩ e4).setCell ⟨B, 5, none⟩ e5).setCell ⟨B, 6, none⟩ e6).setCell ⟨B, 7, none⟩ e7).cell? ⟨ba, oa1, none⟩ = some ua1 ∧ ((((((((W.setCell ⟨B, 0, none⟩ e0).setCell ⟨B, 1, none⟩ e1).setCell ⟨B, 2, none⟩ e2).setCell ⟨B, 3, none⟩ e3).setCell ⟨B, 4, none⟩ e4).setCell ⟨B, 5, none⟩ e5).setCell ⟨B, 6, none⟩ e6).setCell ⟨B, 7, none⟩ e7).cell? ⟨ba, oa2, none⟩ = some ua2 ∧ ((((((((W.setCell ⟨B, 0, none⟩ e0).setCell ⟨B, 1, none⟩ e1).setCell ⟨B, 2, none⟩ e2).setCell ⟨B, 3, none⟩ e3).setCell ⟨B, 4, none⟩ e4).setCell ⟨B, 5, none⟩ e5).setCell ⟨B, 6, none⟩ e6).setCell ⟨B, 7, none⟩ e7).cell? ⟨ba, oa3, none⟩ = some ua3 ∧ ((((((((W.setCell ⟨B, 0, none⟩ e0).setCell ⟨B, 1, none⟩ e1).setCell ⟨B, 2, none⟩ e2).setCell ⟨B, 3, none⟩ e3).setCell ⟨B, 4, none⟩ e4).setCell ⟨B, 5, none⟩ e5).setCell ⟨B, 6, none⟩ e6).setCell ⟨B, 7, none⟩ e7).cell? ⟨ba, oa4, none⟩ = some ua4 ∧ ((((((((W.setCell ⟨B, 0, none⟩ e0).setCell ⟨B, 1, none⟩ e1).setCell ⟨B, 2, none⟩ e2).setCell ⟨B, 3, none⟩ e3).setCell ⟨B, 4, none⟩ e4).setCell ⟨B, 5, none⟩ e5).setCell ⟨B, 6, none⟩ e6).setCell ⟨B, 7, none⟩ e7).cell? ⟨ba, oa5, none⟩ = some ua5 ∧ ((((((((W.setCell ⟨B, 0, none⟩ e0).setCell ⟨B, 1, none⟩ e1).setCell ⟨B, 2, none⟩ e2).setCell ⟨B, 3, none⟩ e3).setCell ⟨B, 4, none⟩ e4).setCell ⟨B, 5, none⟩ e5).setCell ⟨B, 6, none⟩ e6).setCell ⟨B, 7, none⟩ e7).cell? ⟨ba, oa6, none⟩ = some ua6 ∧ ((((((((W.setCell ⟨B, 0, none⟩ e0).setCell ⟨B, 1, none⟩ e1).setCell ⟨B, 2, none⟩ e2).setCell ⟨B, 3, none⟩ e3).setCell ⟨B, 4, none⟩ e4).setCell ⟨B, 5, none⟩ e5).setCell ⟨B, 6, none⟩ e6).setCell ⟨B, 7, none⟩ e7).cell? ⟨ba, oa7, none⟩ = some ua7) ∧ (((((((((W.setCell ⟨B, 0, none⟩ e0).setCell ⟨B, 1, none⟩ e1).setCell ⟨B, 2, none⟩ e2).setCell ⟨B, 3, none⟩ e3).setCell ⟨B, 4, none⟩ e4).setCell ⟨B, 5, none⟩ e5).setCell ⟨B, 6, none⟩ e6).setCell ⟨B, 7, none⟩ e7).cell? ⟨bb, ob0, none⟩ = some ub0 ∧ ((((((((W.setCell ⟨B, 0, none⟩ e0).setCell ⟨B, 1, none⟩ e1).setCell ⟨B, 2, none⟩ e2).setCell ⟨B, 3, none⟩ e3).setCell ⟨B, 4, none⟩ e4).setCell ⟨B, 5, none⟩ e5).setCell ⟨B, 6, none⟩ e6).setCell ⟨B, 7, none⟩ e7).cell? ⟨bb, ob1, none⟩ = some ub1 ∧ ((((((((W.setCell ⟨B, 0, none⟩ e0).setCell ⟨B, 1, none⟩ e1).setCell ⟨B, 2, none⟩ e2).setCell ⟨B, 3, none⟩ e3).setCell ⟨B, 4, none⟩ e4).setCell ⟨B, 5, none⟩ e5).setCell ⟨B, 6, none⟩ e6).setCell ⟨B, 7, none⟩ e7).cell? ⟨bb, ob2, none⟩ = some ub2 ∧ ((((((((W.setCell ⟨B, 0, none⟩ e0).setCell ⟨B, 1, none⟩ e1).setCell ⟨B, 2, none⟩ e2).setCell ⟨B, 3, none⟩ e3).setCell ⟨B, 4, none⟩ e4).setCell ⟨B, 5, none⟩ e5).setCell ⟨B, 6, none⟩ e6).setCell ⟨B, 7, none⟩ e7).cell? ⟨bb, ob3, none⟩ = some ub3 ∧ ((((((((W.setCell ⟨B, 0, none⟩ e0).setCell ⟨B, 1, none⟩ e1).setCell ⟨B, 2, none⟩ e2).setCell ⟨B, 3, none⟩ e3).setCell ⟨B, 4, none⟩ e4).setCell ⟨B, 5, none⟩ e5).setCell ⟨B, 6, none⟩ e6).setCell ⟨B, 7, none⟩ e7).cell? ⟨bb, ob4, none⟩ = some ub4 ∧ ((((((((W.setCell ⟨B, 0, none⟩ e0).setCell ⟨B, 1, none⟩ e1).setCell ⟨B, 2, none⟩ e2).setCell ⟨B, 3, none⟩ e3).setCell ⟨B, 4, none⟩ e4).setCell ⟨B, 5, none⟩ e5).setCell ⟨B, 6, none⟩ e6).setCell ⟨B, 7, none⟩ e7).cell? ⟨bb, ob5, none⟩ = some ub5 ∧ ((((((((W.setCell ⟨B, 0, none⟩ e0).setCell ⟨B, 1, none⟩ e1).setCell ⟨B, 2, none⟩ e2).setCell ⟨B, 3, none⟩ e3).setCell ⟨B, 4, none⟩ e4).setCell ⟨B, 5, none⟩ e5).setCell ⟨B, 6, none⟩ e6).setCell ⟨B, 7, none⟩ e7).cell? ⟨bb, ob6, none⟩ = some ub6 ∧ ((((((((W.setCell ⟨B, 0, none⟩ e0).setCell ⟨B, 1, none⟩ e1).setCell ⟨B, 2, none⟩ e2).setCell ⟨B, 3, none⟩ e3).setCell ⟨B, 4, none⟩ e4).setCell ⟨B, 5, none⟩ e5).setCell ⟨B, 6, none⟩ e6).setCell ⟨B, 7, none⟩ e7).cell? ⟨bb, ob7, none⟩ = some ub7) := by
  obtain ⟨q, ⟨ma0, ma1, ma2, ma3, ma4, ma5, ma6, ma7⟩, ⟨mb0, mb1, mb2, mb3, mb4, mb5, mb6, mb7⟩⟩ := h
  have hk : ∀ {q j : Nat} {u : Value}, q ≠ B → W.cell? ⟨q, j, none⟩ = some u → ((((((((W.setCell ⟨B, 0, none⟩ e0).setCell ⟨B, 1, none⟩ e1).setCell ⟨B, 2, none⟩ e2).setCell ⟨B, 3, none⟩ e3).setCell ⟨B, 4, none⟩ e4).setCell ⟨B, 5, none⟩ e5).setCell ⟨B, 6, none⟩ e6).setCell ⟨B, 7, none⟩ e7).cell? ⟨q, j, none⟩ = some u := fun hq hu => (World.cell?_of_block (by rw [blk_far hq, blk_far hq, blk_far hq, blk_far hq, blk_far hq, blk_far hq, blk_far hq, blk_far hq])).trans hu
  exact ⟨hk hp q, ⟨hk ha ma0, hk ha ma1, hk ha ma2, hk ha ma3, hk ha ma4, hk ha ma5, hk ha ma6, hk ha ma7⟩, ⟨hk hb mb0, hk hb mb1, hk hb mb2, hk hb mb3, hk hb mb4, hk hb mb5, hk hb mb6, hk hb mb7⟩⟩
theorem rowT_uni {l : List UInt8} {w w' : World} {e : Ending} (h : Cn.RowT l w e w') : Below w.heap.size w w' ∧ ∃ a c, e = .returned (.slice a l.length c) ∧ Src w' a l := by
  obtain ⟨hb, ⟨rfl, rfl⟩ | ⟨B, c, rfl, _, _, hs⟩⟩ := h
  · exact ⟨hb, none, 0, rfl, .inl rfl⟩
  · exact ⟨hb, _, c, rfl, hs⟩
theorem lay_put {O : Nat → Prop} {w w3 w4 w5 : World} {s B : Nat} {fr : Int} {G' : List (Th × Lay)} {q : Ob} {t : TypeId} (hb : Below w.heap.size w w3) (hF : Frm O w3 w4) (hR : Rep O w4 s fr G') (hO : ∀ q, O q → q < w.heap.size) (hB : w.heap.size ≤ B)
    (hp : Put8 w4 B t (.int .i64 q.kind) (.bool q.exec) (.int .i64 q.acc) (.int .i64 q.n) (.string q.name) (.int .i64 q.ref) (.int .i64 q.frm) (.int .i64 q.len) w5) : LayP O w s fr G' q (.returned (.tuple #[q.val, .int .i64 0])) w5 := by
  have hFa : Frm O w w5 := ⟨hp.os.trans (hF.os.trans hb.os), hp.tape.trans (hF.tape.trans hb.tape), hp.output.trans (hF.output.trans hb.output), by rw [hp.size]; exact Nat.le_trans hb.size hF.size, fun k hk hn => (hp.far k (by omega)).trans ((hF.block k (Nat.lt_of_lt_of_le hk hb.size) hn).trans (hb.block k hk))⟩
  exact ⟨rfl, hFa, hR.same (by rw [hp.size]; exact Nat.le_refl _) (fun k _ hk => hp.far k (fun e => by have := hO k hk; omega))⟩
set_option maxRecDepth 100000 in
set_option maxHeartbeats 1000000 in
theorem asText_at {O : Nat → Prop} {w : World} {s : Nat} {fr : Int} {G G' : List (Th × Lay)} {o rm q : Ob} (h : Rep O w s fr G) (h6 : rm.kind = 6) (hac : acs G rm = 0) (ht : Tab w) (hn : -9223372036854775808 ≤ o.n ∧ o.n ≤ 9223372036854775807)
    (hp : partR G rm 0 (Cn.txtL G o).length = (q, 0)) (hw : writeE G q 0 (Cn.txtL G o).length = 0) (hg : writeR G q 0 (Cn.txtL G o) = G') :
    Calls Tryz.prog 39 #[cw s, o.val, rm.val] w (LayP O w s fr G' q) := by
  have HBX := Lib.hid (bx4 (O := O) w (cwC s) (obC o) (obC rm) (obC nul) h.olt)
  have H4 : Hid (Below w.heap.size w ((((w.alloc (cwC s)).alloc (obC o)).alloc (obC rm)).alloc (obC nul))) := Lib.hid (bthen (bthen (below2 w _ _) (below1 _ _)) (below1 _ _))
  have HT := Lib.hid (fun w2 (hb : Below w.heap.size w w2) => Cn.textC_at (h.below hb) o (Tab.below ht hb) hn)
  have HL := Lib.hid (fun w2 (hb : Below w.heap.size w w2) (a : Option Addr) (c : Nat) (hS : Src w2 a (Cn.txtL G o)) => lay_at (c0 := c) (h.below hb) hS hac hp hw hg)
  have HO := Lib.hid h.olt
  generalize Cn.txtL G o = L at *
  unfold cwC obC nul at HBX H4
  unfold LayP at HL
  unfold Ob.val at HT HL
  unfold cw at HL
  unfold cw Ob.val
  rw [h6] at HBX H4 HL ⊢
  clear h hac ht hp hw hg
  go_enter Tryz.func39, Tryz.ntmps39
  go_upto_region 3 with fail
  have hex : ∃ W, W = (((w.alloc (.cells #[.pointer (some ⟨s, 0, none⟩)] 73)).alloc (.cells #[.int .i64 o.kind, .bool o.exec, .int .i64 o.acc, .int .i64 o.n, .string o.name, .int .i64 o.ref, .int .i64 o.frm, .int .i64 o.len] 27)).alloc (.cells #[.int .i64 6, .bool rm.exec, .int .i64 rm.acc, .int .i64 rm.n, .string rm.name, .int .i64 rm.ref, .int .i64 rm.frm, .int .i64 rm.len] 27)).alloc (.cells #[.int .i64 0, .bool false, .int .i64 0, .int .i64 0, .string ⟨#[]⟩, .int .i64 0, .int .i64 0, .int .i64 0] 27) := ⟨_, rfl⟩
  obtain ⟨W, hW⟩ := hex
  rw [← hW]
  rw [← hW] at HBX H4
  clear hW
  have HK3 := Lib.hid (HBX.out.below (w' := W.drew) ⟨rfl, rfl, rfl, Nat.le_refl _, fun _ _ => rfl⟩)
  have HB3 : Hid (Below w.heap.size w W.drew) := Lib.hid (below_draw H4.out 1)
  have s1 := And.intro (cellCv HBX.out.b3) (And.intro (cellsOb HBX.out.b2) (cellsOb HBX.out.b1))
  have s3 := And.intro (cellCv HK3.out.b3) (And.intro (cellsOb HK3.out.b2) (cellsOb HK3.out.b1))
  have HTx := Lib.hid (HT.out W.drew HB3.out)
  have n0 : w.heap.size ≠ w.heap.size + 1 + 1 + 1 := by omega
  have n1 : w.heap.size + 1 ≠ w.heap.size + 1 + 1 + 1 := by omega
  have n2 : w.heap.size + 1 + 1 ≠ w.heap.size + 1 + 1 + 1 := by omega
  clear HT
  go_cut [7] (fun v wx => v = .int .i64 0 ∧ ∃ w4 w6, Below W.heap.size W w4 ∧ Frm O w4 w6 ∧ Rep O w6 s fr G' ∧ Put8 w6 (w.heap.size + 1 + 1 + 1) 27 (.int .i64 q.kind) (.bool q.exec) (.int .i64 q.acc) (.int .i64 q.n) (.string q.name) (.int .i64 q.ref) (.int .i64 q.frm) (.int .i64 q.len) wx)
  case first =>
    go_region_held3 (fun w' => w'.cell? ⟨w.heap.size, 0, none⟩ = some (.pointer (some ⟨s, 0, none⟩)) ∧ (w'.cell? ⟨w.heap.size + 1, 0, none⟩ = some (.int .i64 o.kind) ∧ w'.cell? ⟨w.heap.size + 1, 1, none⟩ = some (.bool o.exec) ∧ w'.cell? ⟨w.heap.size + 1, 2, none⟩ = some (.int .i64 o.acc) ∧ w'.cell? ⟨w.heap.size + 1, 3, none⟩ = some (.int .i64 o.n) ∧ w'.cell? ⟨w.heap.size + 1, 4, none⟩ = some (.string o.name) ∧ w'.cell? ⟨w.heap.size + 1, 5, none⟩ = some (.int .i64 o.ref) ∧ w'.cell? ⟨w.heap.size + 1, 6, none⟩ = some (.int .i64 o.frm) ∧ w'.cell? ⟨w.heap.size + 1, 7, none⟩ = some (.int .i64 o.len)) ∧ (w'.cell? ⟨w.heap.size + 1 + 1, 0, none⟩ = some (.int .i64 6) ∧ w'.cell? ⟨w.heap.size + 1 + 1, 1, none⟩ = some (.bool rm.exec) ∧ w'.cell? ⟨w.heap.size + 1 + 1, 2, none⟩ = some (.int .i64 rm.acc) ∧ w'.cell? ⟨w.heap.size + 1 + 1, 3, none⟩ = some (.int .i64 rm.n) ∧ w'.cell? ⟨w.heap.size + 1 + 1, 4, none⟩ = some (.string rm.name) ∧ w'.cell? ⟨w.heap.size + 1 + 1, 5, none⟩ = some (.int .i64 rm.ref) ∧ w'.cell? ⟨w.heap.size + 1 + 1, 6, none⟩ = some (.int .i64 rm.frm) ∧ w'.cell? ⟨w.heap.size + 1 + 1, 7, none⟩ = some (.int .i64 rm.len)))
      (first | with_reducible exact s3 | with_reducible exact s1 | with_reducible exact s4 | with_reducible exact s5 | with_reducible exact keepS2 n0 n1 n2 s5 | fail)
      (first | (go_at_call 20; (with_reducible refine HTx.out.mono ?_); rintro e w4 hR; obtain ⟨hb4, a, c, rfl, hS⟩ := rowT_uni hR; have HK4 := Lib.hid (HK3.out.below hb4); have HB4 := Lib.hid (bthen HB3.out hb4); have HLy := Lib.hid (HL.out w4 HB4.out a c hS); have s4 := And.intro (cellCv HK4.out.b3) (And.intro (cellsOb HK4.out.b2) (cellsOb HK4.out.b1))) | (go_at_call 56; (with_reducible refine HLy.out.mono ?_); rintro e w5 ⟨rfl, hF, hRp⟩; have HK5 := Lib.hid (HK4.out.frm hF); have s5 := And.intro (cellCv HK5.out.b3) (And.intro (cellsOb HK5.out.b2) (cellsOb HK5.out.b1)); have hz := HK5.out.b0; obtain ⟨r0, r1, r2, r3, r4, r5, r6, r7⟩ := cellsOb hz; have rf := blk_free hz) | fail)
    all_goals go_wp2_with fail
    all_goals go_meet
    exact ⟨rfl, w4, w5, ⟨hb4.os, hb4.tape, hb4.output, hb4.size, hb4.block⟩, hF, hRp, put8 hz _ _ _ _ _ _ _ _⟩
  case rest =>
    obtain ⟨rfl, w4, w6, hb4, hF, hR, hp⟩ := hcut
    have HE := Lib.hid (And.intro hb4 (And.intro hF (And.intro hR hp)))
    clear hb4 hF hR hp s1 s3
    go_wp2_with fail
    exact bodyPost_ret (results_ob2 Tryz.results39 _ _ (w.heap.size + 1 + 1 + 1) rfl rfl HE.out.2.2.2.blk) rfl (lay_put (bthen H4.out HE.out.1) HE.out.2.1 HE.out.2.2.1 HO.out (by omega) HE.out.2.2.2)
end Cv
end Go.Proofs.YtfilbfenpdaahaaGreatDoor
