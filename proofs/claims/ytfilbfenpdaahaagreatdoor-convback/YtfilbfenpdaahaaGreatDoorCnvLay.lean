/-
  A text is laid into a string: lay, asText; by contracts.
-/
import Derived.Test.YtfilbfenpdaahaaGreatDoorCnvDo
import Derived.Test.YtfilbfenpdaahaaGreatDoorCnvBarD
import Derived.Test.YtfilbfenpdaahaaGreatDoorStoWrite
namespace Go.Proofs.YtfilbfenpdaahaaGreatDoor
open Go.RowKit
open St
open Stk
open Col
namespace Cv
/-- what is answered and what the store has, when a text was laid -/
def LayP (O : Nat → Prop) (w : World) (s : Nat) (fr : Int) (G' : List (Th × Lay)) (q : Ob) (e : Ending) (w' : World) : Prop :=
  e = .returned (.tuple #[q.val, .int .i64 0]) ∧ Frm O w w' ∧ Rep O w' s fr G'
set_option maxRecDepth 100000 in
set_option maxHeartbeats 1000000 in
theorem lay_at {O : Nat → Prop} {w : World} {s c0 : Nat} {fr : Int} {G G' : List (Th × Lay)} {a : Option Addr} {b : List UInt8} {rm q : Ob} (h : Rep O w s fr G) (hS : Src w a b) (hac : acs G rm = 0)
    (hp : partR G rm 0 b.length = (q, 0)) (hw : writeE G q 0 b.length = 0) (hg : writeR G q 0 b = G') :
    Calls Tryz.prog 56 #[cw s, .slice a b.length c0, rm.val] w (LayP O w s fr G' q) := by
  have HB := Lib.hid (bx3 (O := O) w (cwC s) (obC rm) (obC nul) h.olt)
  have H3 : Hid (Below w.heap.size w (((w.alloc (cwC s)).alloc (obC rm)).alloc (obC nul))) := Lib.hid (bthen (below2 w _ _) (below1 _ _))
  have HA := Lib.hid (fun w2 (hb : Below w.heap.size w w2) => mayWrite_at (h.below hb) rm)
  have HP := Lib.hid (fun w2 (hb : Below w.heap.size w w2) => part_at (h.below hb) rm 0 b.length)
  have HW := Lib.hid (fun w2 (hb : Below w.heap.size w w2) => write_at (c0 := c0) (h.below hb) (hS.below hb) q 0)
  have HO := Lib.hid h.olt
  rw [hac] at HA
  rw [hp] at HP
  rw [hw, hg] at HW
  unfold cwC obC nul at HB H3
  unfold ObE at HP
  unfold Ob.val at HA HP HW
  unfold cw at HA
  unfold LayP cw Ob.val
  clear h hS hac hp hw hg
  go_enter Tryz.func56, Tryz.ntmps56
  go_wp2_with fail
  refine (HA.out _ H3.out).mono ?_; rintro e w2 ⟨rfl, hb2⟩
  have K2 := HB.out.below hb2
  have c0' := cellCv K2.b2
  obtain ⟨x0, x1, x2, x3, x4, x5, x6, x7⟩ := cellsOb K2.b1
  have HB2 := Lib.hid (bthen H3.out hb2)
  have HK2 := Lib.hid K2
  clear hb2 K2 HA
  go_wp2_with fail
  refine (HP.out _ HB2.out).mono ?_; rintro e w4 ⟨rfl, hb4⟩
  have K4 := HK2.out.below hb4
  have HB4 := Lib.hid (bthen HB2.out hb4)
  clear c0' x0 x1 x2 x3 x4 x5 x6 x7 hb4 HP HK2 HB2
  have hz := heap_alloc_new w4 (obC q)
  have K5 := K4.below (below1 w4 (obC q))
  have hb5 := bthen HB4.out (below1 w4 (obC q))
  unfold obC at hz K5 hb5
  have hsz : w.heap.size + 3 ≤ w4.heap.size := by have := (Array.getElem?_eq_some_iff.1 K4.b0).1; omega
  clear K4
  go_upto_region 6 with fail
  generalize w4.alloc (.cells #[.int .i64 q.kind, .bool q.exec, .int .i64 q.acc, .int .i64 q.n, .string q.name, .int .i64 q.ref, .int .i64 q.frm, .int .i64 q.len] 27) = W at *
  generalize w4.heap.size = P at *
  obtain ⟨y0, y1, y2, y3, y4, y5, y6, y7⟩ := cellsOb hz
  have c0' := cellCv K5.b2
  have n1 : P ≠ w.heap.size + 1 + 1 := by omega
  have n2 : w.heap.size ≠ w.heap.size + 1 + 1 := by omega
  have HN := Lib.hid (show ¬ O P ∧ ¬ O w.heap.size ∧ ¬ O (w.heap.size + 1 + 1) from ⟨fun e => by have := HO.out _ e; omega, fun e => by have := HO.out _ e; omega, fun e => by have := HO.out _ e; omega⟩)
  have HR := Lib.hid K5.b0
  have HB5 := Lib.hid hb5
  have HL := Lib.hid (HW.out W.drew (below_draw hb5 1))
  have sI := And.intro y0 (And.intro y1 (And.intro y2 (And.intro y3 (And.intro y4 (And.intro y5 (And.intro y6 (And.intro y7 c0')))))))
  have sD : W.drew.cell? ⟨P, 0, none⟩ = some (.int .i64 q.kind) ∧ W.drew.cell? ⟨P, 1, none⟩ = some (.bool q.exec) ∧ W.drew.cell? ⟨P, 2, none⟩ = some (.int .i64 q.acc) ∧ W.drew.cell? ⟨P, 3, none⟩ = some (.int .i64 q.n) ∧ W.drew.cell? ⟨P, 4, none⟩ = some (.string q.name) ∧ W.drew.cell? ⟨P, 5, none⟩ = some (.int .i64 q.ref) ∧ W.drew.cell? ⟨P, 6, none⟩ = some (.int .i64 q.frm) ∧ W.drew.cell? ⟨P, 7, none⟩ = some (.int .i64 q.len) ∧ W.drew.cell? ⟨w.heap.size, 0, none⟩ = some (.pointer (some ⟨s, 0, none⟩)) := sI
  clear hz K5 hb5 hsz HW
  go_cut [7] (fun v wx => v = .int .i64 0 ∧ ∃ w6, Frm O W w6 ∧ Rep O w6 s fr G' ∧ Put8 w6 (w.heap.size + 1 + 1) 27 (.int .i64 q.kind) (.bool q.exec) (.int .i64 q.acc) (.int .i64 q.n) (.string q.name) (.int .i64 q.ref) (.int .i64 q.frm) (.int .i64 q.len) wx)
  case first =>
    go_region_held3 (fun w' => w'.cell? ⟨P, 0, none⟩ = some (.int .i64 q.kind) ∧ w'.cell? ⟨P, 1, none⟩ = some (.bool q.exec) ∧ w'.cell? ⟨P, 2, none⟩ = some (.int .i64 q.acc) ∧ w'.cell? ⟨P, 3, none⟩ = some (.int .i64 q.n) ∧ w'.cell? ⟨P, 4, none⟩ = some (.string q.name) ∧ w'.cell? ⟨P, 5, none⟩ = some (.int .i64 q.ref) ∧ w'.cell? ⟨P, 6, none⟩ = some (.int .i64 q.frm) ∧ w'.cell? ⟨P, 7, none⟩ = some (.int .i64 q.len) ∧ w'.cell? ⟨w.heap.size, 0, none⟩ = some (.pointer (some ⟨s, 0, none⟩))) (first | with_reducible exact sD | with_reducible exact sI | with_reducible exact sL | with_reducible exact keep9 n1 n2 sL | fail) ((go_at_call 71; refine HL.out.mono ?_; rintro e wL hT; obtain ⟨rfl, hF, hRL⟩ := turn_ok hT; have sL := cell9 hF HN.out.1 HN.out.2.1 sD; have hz := (hF.block _ (Array.getElem?_eq_some_iff.1 HR.out).1 HN.out.2.2).trans HR.out; obtain ⟨r0, r1, r2, r3, r4, r5, r6, r7⟩ := cellsOb hz; have rf := blk_free hz))
    all_goals go_wp2_with fail
    all_goals go_meet
    exact ⟨rfl, wL, ⟨hF.os, hF.tape, hF.output, hF.size, hF.block⟩, hRL, put8 hz _ _ _ _ _ _ _ _⟩
  case rest =>
    obtain ⟨rfl, w6, hF, hR, hp⟩ := hcut
    have HE := Lib.hid (And.intro hF (And.intro hR hp))
    clear hF hR hp
    go_wp2_with fail
    have hp := HE.out.2.2
    have hFa : Frm O w wc := ⟨hp.os.trans (HE.out.1.os.trans HB5.out.os), hp.tape.trans (HE.out.1.tape.trans HB5.out.tape), hp.output.trans (HE.out.1.output.trans HB5.out.output), by rw [hp.size]; exact Nat.le_trans HB5.out.size HE.out.1.size, fun k hk hO => (hp.far k (by omega)).trans ((HE.out.1.block k (Nat.lt_of_lt_of_le hk HB5.out.size) hO).trans (HB5.out.block k hk))⟩
    refine bodyPost_ret (results_ob2 Tryz.results56 _ _ (w.heap.size + 1 + 1) rfl rfl hp.blk) rfl ⟨rfl, hFa, ?_⟩
    exact HE.out.2.1.same (by rw [hp.size]; exact Nat.le_refl _) (fun k _ hk => hp.far k (fun e => HN.out.2.2 (by rw [← e]; exact hk)))
end Cv
end Go.Proofs.YtfilbfenpdaahaaGreatDoor
