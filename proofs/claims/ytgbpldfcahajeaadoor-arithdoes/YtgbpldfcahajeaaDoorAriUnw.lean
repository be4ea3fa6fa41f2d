/-
  ofReal with a table or a closure, madeWhole, doOne at the operators of one operand (made by genun.py).
-/
import Derived.Test.YtgbpldfcahajeaaDoorAriUn
namespace Go.Proofs.YtgbpldfcahajeaaDoor
open Go.RowKit
open Fx
namespace Ari
def wholeO (V E : Int → Int) (a : Ob) : Out := if isIntB a = true then okO 1 a.n else realO V E a
set_option maxHeartbeats 2000000 in
set_option maxRecDepth 100000 in
theorem ofReal_tab {w : World} {g : Nat} {V E : Int → Int} (hC : Fun1T g V E) (hT : SinT w) (a : Ob) : Calls Tryd.prog 47 #[a.val, .func (.func g) #[] #[]] w fun e w' => e = .returned (realO V E a).val ∧ Below w.heap.size w w' := by
  have hX := asReal_any a
  unfold realO
  by_cases ha : asE a = 0
  · rw [if_pos ha]
    have fa := asV_fits ha
    rw [ha] at hX
    have HC := Lib.hid (fun W hW => hC.2 (asV a) W hW fa)
    have HT := Lib.hid hT
    have hE : ∀ (args : Array Value) (w : World), (callFunc g args).run Tryd.prog w = .ok (.enter g args) w := hC.1
    clear ha fa hC hT
    generalize asV a = x at *
    have HM := Lib.hid (fun W => made_any 2 (V x) (E x) W)
    generalize V x = v at *
    generalize E x = u at *
    generalize madeO 2 v u = r at *
    obtain ⟨ka, xa, ca, na, sa, ra, fa, la⟩ := a
    unfold Ob.val Out.val at *
    simp only at *
    go_enter Tryd.func47, Tryd.ntmps47
    go_wp2_with fail
    refine (hX _).mono ?_; rintro e w1 ⟨rfl, hb1⟩
    have p10 := rule hb1 (w.heap.size) (by simp <;> omega)
    have p11 := rule hb1 (w.heap.size + 1) (by simp <;> omega)
    have q1 := ruleF hb1 (w.heap.size + 1) (by simp <;> omega)
    have HN1 := Lib.hid (show Nul w1 (w.heap.size + 1) from Nul.below (alloc_at (by simp)) hb1)
    have HB1 := Lib.hid (bthen (below2 _ _ _ ) hb1)
    have hz1 : w.heap.size + 1 < w1.heap.size := by have := hb1.size; simp at this; omega
    clear hb1
    go_wp2_with fail
    refine (HC.out _ (HT.out.below HB1.out)).mono ?_; rintro e w2 ⟨rfl, hb2⟩
    have p20 := rule hb2 (w.heap.size) (by omega)
    have p21 := rule hb2 (w.heap.size + 1) (by omega)
    have q2 := ruleF hb2 (w.heap.size + 1) (by omega)
    have HN2 := Lib.hid (HN1.out.below hb2)
    have HB2 := Lib.hid (bthen HB1.out hb2)
    have hz2 : w.heap.size + 1 < w2.heap.size := by have := hb2.size; omega
    clear hb2
    go_wp2_with fail
    refine (HM.out _).mono ?_; rintro e w3 ⟨rfl, hb3⟩
    have p30 := rule hb3 (w.heap.size) (by omega)
    have p31 := rule hb3 (w.heap.size + 1) (by omega)
    have q3 := ruleF hb3 (w.heap.size + 1) (by omega)
    have HN3 := Lib.hid (HN2.out.below hb3)
    have HB3 := Lib.hid (bthen HB2.out hb3)
    have hz3 : w.heap.size + 1 < w3.heap.size := by have := hb3.size; omega
    clear hb3
    go_wp2_with fail
    exact bodyPost_ret (results_ob2 Tryd.results47 _ _ (w.heap.size + 1) rfl rfl (put8 HN3.out _ _ _ _ _ _ _ _).blk) rfl ⟨rfl, below_put8 HB3.out (by omega) (put8 HN3.out _ _ _ _ _ _ _ _)⟩
  · rw [if_neg ha]
    have ha' : (asE a == 0) = false := by simpa using ha
    clear ha hC hT
    generalize asV a = x at *
    generalize asE a = u at *
    unfold noO
    obtain ⟨ka, xa, ca, na, sa, ra, fa, la⟩ := a
    unfold Ob.val Out.val at *
    simp only at *
    go_enter Tryd.func47, Tryd.ntmps47
    go_wp2_with fail
    refine (hX _).mono ?_; rintro e w1 ⟨rfl, hb1⟩
    have p10 := rule hb1 (w.heap.size) (by simp <;> omega)
    have p11 := rule hb1 (w.heap.size + 1) (by simp <;> omega)
    have q1 := ruleF hb1 (w.heap.size + 1) (by simp <;> omega)
    have HN1 := Lib.hid (show Nul w1 (w.heap.size + 1) from Nul.below (alloc_at (by simp)) hb1)
    have HB1 := Lib.hid (bthen (below2 _ _ _ ) hb1)
    have hz1 : w.heap.size + 1 < w1.heap.size := by have := hb1.size; simp at this; omega
    clear hb1
    go_wp2_with fail
    exact bodyPost_ret (results_ob2 Tryd.results47 _ _ (w.heap.size + 1) rfl rfl (put8 HN1.out _ _ _ _ _ _ _ _).blk) rfl ⟨rfl, below_put8 HB1.out (by omega) (put8 HN1.out _ _ _ _ _ _ _ _)⟩
set_option maxHeartbeats 2000000 in
set_option maxRecDepth 100000 in
theorem ofReal_clo {w : World} {g b : Nat} {V : Int → Int} (hC : Fun0 g V) (hcl : w.cell? ⟨b, 0, none⟩ = some (.func (.func g) #[] #[])) (a : Ob) : Calls Tryd.prog 47 #[a.val, .func (.func 93) #[] #[.pointer (some ⟨b, 0, none⟩)]] w fun e w' => e = .returned (realO V (fun _ => 0) a).val ∧ Below w.heap.size w w' := by
  have hX := asReal_any a
  unfold realO
  by_cases ha : asE a = 0
  · rw [if_pos ha]
    have fa := asV_fits ha
    rw [ha] at hX
    have HC := Lib.hid (fun W hW => clo_never hC (asV a) fa b W hW)
    have HT := Lib.hid hcl
    have hE : ∀ (args : Array Value) (w : World), (callFunc 93 args).run Tryd.prog w = .ok (.enter 93 args) w := ent_never
    clear ha fa hC hcl
    generalize asV a = x at *
    have HM := Lib.hid (fun W => made_any 2 (V x) (0) W)
    generalize V x = v at *
    generalize madeO 2 v 0 = r at *
    obtain ⟨ka, xa, ca, na, sa, ra, fa, la⟩ := a
    unfold Ob.val Out.val at *
    simp only at *
    go_enter Tryd.func47, Tryd.ntmps47
    go_wp2_with fail
    refine (hX _).mono ?_; rintro e w1 ⟨rfl, hb1⟩
    have p10 := rule hb1 (w.heap.size) (by simp <;> omega)
    have p11 := rule hb1 (w.heap.size + 1) (by simp <;> omega)
    have q1 := ruleF hb1 (w.heap.size + 1) (by simp <;> omega)
    have HN1 := Lib.hid (show Nul w1 (w.heap.size + 1) from Nul.below (alloc_at (by simp)) hb1)
    have HB1 := Lib.hid (bthen (below2 _ _ _ ) hb1)
    have hz1 : w.heap.size + 1 < w1.heap.size := by have := hb1.size; simp at this; omega
    clear hb1
    go_wp2_with fail
    refine (HC.out _ ((HB1.out.cell (World.block_lt_of_cell? w _ HT.out)).trans HT.out)).mono ?_; rintro e w2 ⟨rfl, hb2⟩
    have p20 := rule hb2 (w.heap.size) (by omega)
    have p21 := rule hb2 (w.heap.size + 1) (by omega)
    have q2 := ruleF hb2 (w.heap.size + 1) (by omega)
    have HN2 := Lib.hid (HN1.out.below hb2)
    have HB2 := Lib.hid (bthen HB1.out hb2)
    have hz2 : w.heap.size + 1 < w2.heap.size := by have := hb2.size; omega
    clear hb2
    go_wp2_with fail
    refine (HM.out _).mono ?_; rintro e w3 ⟨rfl, hb3⟩
    have p30 := rule hb3 (w.heap.size) (by omega)
    have p31 := rule hb3 (w.heap.size + 1) (by omega)
    have q3 := ruleF hb3 (w.heap.size + 1) (by omega)
    have HN3 := Lib.hid (HN2.out.below hb3)
    have HB3 := Lib.hid (bthen HB2.out hb3)
    have hz3 : w.heap.size + 1 < w3.heap.size := by have := hb3.size; omega
    clear hb3
    go_wp2_with fail
    exact bodyPost_ret (results_ob2 Tryd.results47 _ _ (w.heap.size + 1) rfl rfl (put8 HN3.out _ _ _ _ _ _ _ _).blk) rfl ⟨rfl, below_put8 HB3.out (by omega) (put8 HN3.out _ _ _ _ _ _ _ _)⟩
  · rw [if_neg ha]
    have ha' : (asE a == 0) = false := by simpa using ha
    clear ha hC hcl
    generalize asV a = x at *
    generalize asE a = u at *
    unfold noO
    obtain ⟨ka, xa, ca, na, sa, ra, fa, la⟩ := a
    unfold Ob.val Out.val at *
    simp only at *
    go_enter Tryd.func47, Tryd.ntmps47
    go_wp2_with fail
    refine (hX _).mono ?_; rintro e w1 ⟨rfl, hb1⟩
    have p10 := rule hb1 (w.heap.size) (by simp <;> omega)
    have p11 := rule hb1 (w.heap.size + 1) (by simp <;> omega)
    have q1 := ruleF hb1 (w.heap.size + 1) (by simp <;> omega)
    have HN1 := Lib.hid (show Nul w1 (w.heap.size + 1) from Nul.below (alloc_at (by simp)) hb1)
    have HB1 := Lib.hid (bthen (below2 _ _ _ ) hb1)
    have hz1 : w.heap.size + 1 < w1.heap.size := by have := hb1.size; simp at this; omega
    clear hb1
    go_wp2_with fail
    exact bodyPost_ret (results_ob2 Tryd.results47 _ _ (w.heap.size + 1) rfl rfl (put8 HN1.out _ _ _ _ _ _ _ _).blk) rfl ⟨rfl, below_put8 HB1.out (by omega) (put8 HN1.out _ _ _ _ _ _ _ _)⟩
set_option maxHeartbeats 2000000 in
set_option maxRecDepth 100000 in
theorem madeWhole_any {w : World} {fv : Value} {V E : Int → Int} {a : Ob} (hR : ∀ W, Below w.heap.size w W → Calls Tryd.prog 47 #[a.val, fv] W fun e w' => e = .returned (realO V E a).val ∧ Below W.heap.size W w') : Calls Tryd.prog 41 #[a.val, fv] w fun e w' => e = .returned (wholeO V E a).val ∧ Below w.heap.size w w' := by
  have hI := isInt_any a
  have hW := fun W => whole_any a.n W
  unfold wholeO
  cases h : isIntB a
  · rw [if_neg (by simp)]
    rw [h] at hI
    have HR := Lib.hid hR
    clear h hW hR
    generalize realO V E a = r at *
    obtain ⟨ka, xa, ca, na, sa, ra, fa, la⟩ := a
    unfold Ob.val Out.val at *
    (try unfold mk at *)
    simp only at *
    go_enter Tryd.func41, Tryd.ntmps41
    go_wp2_with fail
    refine (hI _).mono ?_; rintro e w1 ⟨rfl, hb1⟩
    have p10 := rule hb1 (w.heap.size) (by simp <;> omega)
    have p11 := rule hb1 (w.heap.size + 1) (by simp <;> omega)
    have q1 := ruleF hb1 (w.heap.size + 1) (by simp <;> omega)
    have HN1 := Lib.hid (show Nul w1 (w.heap.size + 1) from Nul.below (alloc_at (by simp)) hb1)
    have HB1 := Lib.hid (bthen (below2 _ _ _ ) hb1)
    have hz1 : w.heap.size + 1 < w1.heap.size := by have := hb1.size; simp at this; omega
    clear hb1
    go_wp2_with fail
    refine (HR.out _ HB1.out).mono ?_; rintro e w2 ⟨rfl, hb2⟩
    have p20 := rule hb2 (w.heap.size) (by omega)
    have p21 := rule hb2 (w.heap.size + 1) (by omega)
    have q2 := ruleF hb2 (w.heap.size + 1) (by omega)
    have HN2 := Lib.hid (HN1.out.below hb2)
    have HB2 := Lib.hid (bthen HB1.out hb2)
    have hz2 : w.heap.size + 1 < w2.heap.size := by have := hb2.size; omega
    clear hb2
    go_wp2_with fail
    exact bodyPost_ret (results_ob2 Tryd.results41 _ _ (w.heap.size + 1) rfl rfl (put8 HN2.out _ _ _ _ _ _ _ _).blk) rfl ⟨rfl, below_put8 HB2.out (by omega) (put8 HN2.out _ _ _ _ _ _ _ _)⟩
  · rw [if_pos rfl]
    rw [h] at hI
    clear h hR
    unfold okO
    obtain ⟨ka, xa, ca, na, sa, ra, fa, la⟩ := a
    unfold Ob.val Out.val at *
    (try unfold mk at *)
    simp only at *
    go_enter Tryd.func41, Tryd.ntmps41
    go_wp2_with fail
    refine (hI _).mono ?_; rintro e w1 ⟨rfl, hb1⟩
    have p10 := rule hb1 (w.heap.size) (by simp <;> omega)
    have p11 := rule hb1 (w.heap.size + 1) (by simp <;> omega)
    have q1 := ruleF hb1 (w.heap.size + 1) (by simp <;> omega)
    have HN1 := Lib.hid (show Nul w1 (w.heap.size + 1) from Nul.below (alloc_at (by simp)) hb1)
    have HB1 := Lib.hid (bthen (below2 _ _ _ ) hb1)
    have hz1 : w.heap.size + 1 < w1.heap.size := by have := hb1.size; simp at this; omega
    clear hb1
    go_wp2_with fail
    refine (hW _).mono ?_; rintro e w2 ⟨rfl, hb2⟩
    have p20 := rule hb2 (w.heap.size) (by omega)
    have p21 := rule hb2 (w.heap.size + 1) (by omega)
    have q2 := ruleF hb2 (w.heap.size + 1) (by omega)
    have HN2 := Lib.hid (HN1.out.below hb2)
    have HB2 := Lib.hid (bthen HB1.out hb2)
    have hz2 : w.heap.size + 1 < w2.heap.size := by have := hb2.size; omega
    clear hb2
    go_wp2_with fail
    exact bodyPost_ret (results_ob2 Tryd.results41 _ _ (w.heap.size + 1) rfl rfl (put8 HN2.out _ _ _ _ _ _ _ _).blk) rfl ⟨rfl, below_put8 HB2.out (by omega) (put8 HN2.out _ _ _ _ _ _ _ _)⟩
set_option maxHeartbeats 2000000 in
set_option maxRecDepth 100000 in
theorem one_ceiling (a : Ob) (w : World) : Calls Tryd.prog 16 #[.string ⟨#[99, 101, 105, 108, 105, 110, 103]⟩, a.val] w fun e w' => e = .returned (wholeO ceilV ceilE a).val ∧ Below w.heap.size w w' := by
    have hC := fun W => madeWhole_any (w := W) (fun W' _ => ofReal_any fun_ceil a W')
    generalize wholeO ceilV ceilE a = r at *
    obtain ⟨ka, xa, ca, na, sa, ra, fa, la⟩ := a
    unfold Ob.val Out.val at *
    simp only at *
    go_enter Tryd.func16, Tryd.ntmps16
    go_wp2_with fail
    refine (hC _).mono ?_; rintro e w1 ⟨rfl, hb1⟩
    have p10 := rule hb1 (w.heap.size) (by simp <;> omega)
    have p11 := rule hb1 (w.heap.size + 1) (by simp <;> omega)
    have q1 := ruleF hb1 (w.heap.size + 1) (by simp <;> omega)
    have HN1 := Lib.hid (show Nul w1 (w.heap.size + 1) from Nul.below (alloc_at (by simp)) hb1)
    have HB1 := Lib.hid (bthen (below2 _ _ _ ) hb1)
    have hz1 : w.heap.size + 1 < w1.heap.size := by have := hb1.size; simp at this; omega
    clear hb1
    go_wp2_with fail
    exact bodyPost_ret (results_ob2 Tryd.results16 _ _ (w.heap.size + 1) rfl rfl (put8 HN1.out _ _ _ _ _ _ _ _).blk) rfl ⟨rfl, below_put8 HB1.out (by omega) (put8 HN1.out _ _ _ _ _ _ _ _)⟩
set_option maxHeartbeats 2000000 in
set_option maxRecDepth 100000 in
theorem one_round (a : Ob) (w : World) : Calls Tryd.prog 16 #[.string ⟨#[114, 111, 117, 110, 100]⟩, a.val] w fun e w' => e = .returned (wholeO rouV rouE a).val ∧ Below w.heap.size w w' := by
    have hC := fun W => madeWhole_any (w := W) (fun W' _ => ofReal_any fun_round a W')
    generalize wholeO rouV rouE a = r at *
    obtain ⟨ka, xa, ca, na, sa, ra, fa, la⟩ := a
    unfold Ob.val Out.val at *
    simp only at *
    go_enter Tryd.func16, Tryd.ntmps16
    go_wp2_with fail
    refine (hC _).mono ?_; rintro e w1 ⟨rfl, hb1⟩
    have p10 := rule hb1 (w.heap.size) (by simp <;> omega)
    have p11 := rule hb1 (w.heap.size + 1) (by simp <;> omega)
    have q1 := ruleF hb1 (w.heap.size + 1) (by simp <;> omega)
    have HN1 := Lib.hid (show Nul w1 (w.heap.size + 1) from Nul.below (alloc_at (by simp)) hb1)
    have HB1 := Lib.hid (bthen (below2 _ _ _ ) hb1)
    have hz1 : w.heap.size + 1 < w1.heap.size := by have := hb1.size; simp at this; omega
    clear hb1
    go_wp2_with fail
    exact bodyPost_ret (results_ob2 Tryd.results16 _ _ (w.heap.size + 1) rfl rfl (put8 HN1.out _ _ _ _ _ _ _ _).blk) rfl ⟨rfl, below_put8 HB1.out (by omega) (put8 HN1.out _ _ _ _ _ _ _ _)⟩
set_option maxHeartbeats 2000000 in
set_option maxRecDepth 100000 in
theorem one_sqrt (a : Ob) (w : World) : Calls Tryd.prog 16 #[.string ⟨#[115, 113, 114, 116]⟩, a.val] w fun e w' => e = .returned (realO sqV sqE a).val ∧ Below w.heap.size w w' := by
    have hC := fun W => ofReal_any fun_sqrt a W
    generalize realO sqV sqE a = r at *
    obtain ⟨ka, xa, ca, na, sa, ra, fa, la⟩ := a
    unfold Ob.val Out.val at *
    simp only at *
    go_enter Tryd.func16, Tryd.ntmps16
    go_wp2_with fail
    refine (hC _).mono ?_; rintro e w1 ⟨rfl, hb1⟩
    have p10 := rule hb1 (w.heap.size) (by simp <;> omega)
    have p11 := rule hb1 (w.heap.size + 1) (by simp <;> omega)
    have q1 := ruleF hb1 (w.heap.size + 1) (by simp <;> omega)
    have HN1 := Lib.hid (show Nul w1 (w.heap.size + 1) from Nul.below (alloc_at (by simp)) hb1)
    have HB1 := Lib.hid (bthen (below2 _ _ _ ) hb1)
    have hz1 : w.heap.size + 1 < w1.heap.size := by have := hb1.size; simp at this; omega
    clear hb1
    go_wp2_with fail
    exact bodyPost_ret (results_ob2 Tryd.results16 _ _ (w.heap.size + 1) rfl rfl (put8 HN1.out _ _ _ _ _ _ _ _).blk) rfl ⟨rfl, below_put8 HB1.out (by omega) (put8 HN1.out _ _ _ _ _ _ _ _)⟩
set_option maxHeartbeats 2000000 in
set_option maxRecDepth 100000 in
theorem one_sin (a : Ob) (w : World) (hT : SinT w) : Calls Tryd.prog 16 #[.string ⟨#[115, 105, 110]⟩, a.val] w fun e w' => e = .returned (realO sinV (fun _ => 0) a).val ∧ Below w.heap.size w w' := by
    have HC := Lib.hid (fun W hW => ofReal_tab (w := W) fun_sin hW a)
    have HT := Lib.hid (hT.below (below2 w (.cells #[.int .i64 a.kind, .bool a.exec, .int .i64 a.acc, .int .i64 a.n, .string a.name, .int .i64 a.ref, .int .i64 a.frm, .int .i64 a.len] 38) (.cells #[.int .i64 0, .bool false, .int .i64 0, .int .i64 0, .string ⟨#[]⟩, .int .i64 0, .int .i64 0, .int .i64 0] 38)))
    clear hT
    generalize realO sinV (fun _ => 0) a = r at *
    obtain ⟨ka, xa, ca, na, sa, ra, fa, la⟩ := a
    unfold Ob.val Out.val at *
    simp only at *
    go_enter Tryd.func16, Tryd.ntmps16
    go_wp2_with fail
    refine (HC.out _ HT.out).mono ?_; rintro e w1 ⟨rfl, hb1⟩
    have p10 := rule hb1 (w.heap.size) (by simp <;> omega)
    have p11 := rule hb1 (w.heap.size + 1) (by simp <;> omega)
    have q1 := ruleF hb1 (w.heap.size + 1) (by simp <;> omega)
    have HN1 := Lib.hid (show Nul w1 (w.heap.size + 1) from Nul.below (alloc_at (by simp)) hb1)
    have HB1 := Lib.hid (bthen (below2 _ _ _ ) hb1)
    have hz1 : w.heap.size + 1 < w1.heap.size := by have := hb1.size; simp at this; omega
    clear hb1
    go_wp2_with fail
    exact bodyPost_ret (results_ob2 Tryd.results16 _ _ (w.heap.size + 1) rfl rfl (put8 HN1.out _ _ _ _ _ _ _ _).blk) rfl ⟨rfl, below_put8 HB1.out (by omega) (put8 HN1.out _ _ _ _ _ _ _ _)⟩
set_option maxHeartbeats 2000000 in
set_option maxRecDepth 100000 in
theorem one_cos (a : Ob) (w : World) (hT : SinT w) : Calls Tryd.prog 16 #[.string ⟨#[99, 111, 115]⟩, a.val] w fun e w' => e = .returned (realO cosV (fun _ => 0) a).val ∧ Below w.heap.size w w' := by
    have HC := Lib.hid (fun W hW => ofReal_tab (w := W) fun_cos hW a)
    have HT := Lib.hid (hT.below (below2 w (.cells #[.int .i64 a.kind, .bool a.exec, .int .i64 a.acc, .int .i64 a.n, .string a.name, .int .i64 a.ref, .int .i64 a.frm, .int .i64 a.len] 38) (.cells #[.int .i64 0, .bool false, .int .i64 0, .int .i64 0, .string ⟨#[]⟩, .int .i64 0, .int .i64 0, .int .i64 0] 38)))
    clear hT
    generalize realO cosV (fun _ => 0) a = r at *
    obtain ⟨ka, xa, ca, na, sa, ra, fa, la⟩ := a
    unfold Ob.val Out.val at *
    simp only at *
    go_enter Tryd.func16, Tryd.ntmps16
    go_wp2_with fail
    refine (HC.out _ HT.out).mono ?_; rintro e w1 ⟨rfl, hb1⟩
    have p10 := rule hb1 (w.heap.size) (by simp <;> omega)
    have p11 := rule hb1 (w.heap.size + 1) (by simp <;> omega)
    have q1 := ruleF hb1 (w.heap.size + 1) (by simp <;> omega)
    have HN1 := Lib.hid (show Nul w1 (w.heap.size + 1) from Nul.below (alloc_at (by simp)) hb1)
    have HB1 := Lib.hid (bthen (below2 _ _ _ ) hb1)
    have hz1 : w.heap.size + 1 < w1.heap.size := by have := hb1.size; simp at this; omega
    clear hb1
    go_wp2_with fail
    exact bodyPost_ret (results_ob2 Tryd.results16 _ _ (w.heap.size + 1) rfl rfl (put8 HN1.out _ _ _ _ _ _ _ _).blk) rfl ⟨rfl, below_put8 HB1.out (by omega) (put8 HN1.out _ _ _ _ _ _ _ _)⟩
set_option maxHeartbeats 2000000 in
set_option maxRecDepth 100000 in
theorem one_floor (a : Ob) (w : World) : Calls Tryd.prog 16 #[.string ⟨#[102, 108, 111, 111, 114]⟩, a.val] w fun e w' => e = .returned (wholeO floV (fun _ => 0) a).val ∧ Below w.heap.size w w' := by
    have hN := never_at 44
    have HW := Lib.hid (fun (W : World) (bq : Nat) (hq : W.cell? ⟨bq, 0, none⟩ = some (.func (.func 44) #[] #[])) => madeWhole_any (w := W) (fun W' hB => ofReal_clo (w := W') fun_floor ((hB.cell (World.block_lt_of_cell? W _ hq)).trans hq) a))
    generalize wholeO floV (fun _ => 0) a = r at *
    obtain ⟨ka, xa, ca, na, sa, ra, fa, la⟩ := a
    unfold Ob.val Out.val at *
    simp only at *
    go_enter Tryd.func16, Tryd.ntmps16
    go_wp2_with fail
    obtain ⟨w1, hw1⟩ : ∃ W, W = (w.alloc (.cells #[.int .i64 ka, .bool xa, .int .i64 ca, .int .i64 na, .string sa, .int .i64 ra, .int .i64 fa, .int .i64 la] 38)).alloc (.cells #[.int .i64 0, .bool false, .int .i64 0, .int .i64 0, .string ⟨#[]⟩, .int .i64 0, .int .i64 0, .int .i64 0] 38) := ⟨_, rfl⟩
    rw [← hw1]
    have p10 : ∀ o, w1.cell? ⟨w.heap.size, o, none⟩ = ((w.alloc (.cells #[.int .i64 ka, .bool xa, .int .i64 ca, .int .i64 na, .string sa, .int .i64 ra, .int .i64 fa, .int .i64 la] 38)).alloc (.cells #[.int .i64 0, .bool false, .int .i64 0, .int .i64 0, .string ⟨#[]⟩, .int .i64 0, .int .i64 0, .int .i64 0] 38)).cell? ⟨w.heap.size, o, none⟩ := fun o => by rw [hw1]
    have p11 : ∀ o, w1.cell? ⟨w.heap.size + 1, o, none⟩ = ((w.alloc (.cells #[.int .i64 ka, .bool xa, .int .i64 ca, .int .i64 na, .string sa, .int .i64 ra, .int .i64 fa, .int .i64 la] 38)).alloc (.cells #[.int .i64 0, .bool false, .int .i64 0, .int .i64 0, .string ⟨#[]⟩, .int .i64 0, .int .i64 0, .int .i64 0] 38)).cell? ⟨w.heap.size + 1, o, none⟩ := fun o => by rw [hw1]
    have q1 : ∀ o, w1.frozen? ⟨w.heap.size + 1, o, none⟩ = ((w.alloc (.cells #[.int .i64 ka, .bool xa, .int .i64 ca, .int .i64 na, .string sa, .int .i64 ra, .int .i64 fa, .int .i64 la] 38)).alloc (.cells #[.int .i64 0, .bool false, .int .i64 0, .int .i64 0, .string ⟨#[]⟩, .int .i64 0, .int .i64 0, .int .i64 0] 38)).frozen? ⟨w.heap.size + 1, o, none⟩ := fun o => by rw [hw1]
    have HN1 := Lib.hid (show Nul w1 (w.heap.size + 1) from by rw [hw1]; exact alloc_at (by simp))
    have HB1 := Lib.hid (show Below w.heap.size w w1 from by rw [hw1]; exact below2 _ _ _)
    have hz0 : w.heap.size < w1.heap.size := by rw [hw1]; simp <;> omega
    have hz1 : w.heap.size + 1 < w1.heap.size := by rw [hw1]; simp <;> omega
    clear hw1
    go_region_with (first | (with_reducible refine (hN _).mono ?_; rintro e w2 ⟨bq, rfl, hcq, hb2⟩; have p20 := ruleD hb2 (w.heap.size) hz0; have p21 := ruleD hb2 (w.heap.size + 1) hz1; have q2 := ruleDF hb2 (w.heap.size + 1) hz1; have HN2 := Lib.hid (HN1.out.belowD hb2); have HB2 := Lib.hid (bthenD HB1.out hb2); have HC2 := Lib.hid hcq; have hz2 : w.heap.size + 1 < w2.heap.size := (by have h0 := hb2.size; have h1 : w1.drew.heap.size = w1.heap.size := rfl; omega); clear hb2 hcq) | (with_reducible refine (HW.out _ _ HC2.out).mono ?_; rintro e w3 ⟨rfl, hb3⟩; have p31 := rule hb3 (w.heap.size + 1) hz2; have q3 := ruleF hb3 (w.heap.size + 1) hz2; have HN3 := Lib.hid (HN2.out.below hb3); have HB3 := Lib.hid (bthen HB2.out hb3); clear hb3))
    all_goals go_wp2_with fail
    all_goals exact bodyPost_ret (results_ob2 Tryd.results16 _ _ (w.heap.size + 1) rfl rfl (put8 HN3.out _ _ _ _ _ _ _ _).blk) rfl ⟨rfl, below_put8 HB3.out (by omega) (put8 HN3.out _ _ _ _ _ _ _ _)⟩
set_option maxHeartbeats 2000000 in
set_option maxRecDepth 100000 in
theorem one_truncate (a : Ob) (w : World) : Calls Tryd.prog 16 #[.string ⟨#[116, 114, 117, 110, 99, 97, 116, 101]⟩, a.val] w fun e w' => e = .returned (wholeO truV (fun _ => 0) a).val ∧ Below w.heap.size w w' := by
    have hN := never_at 46
    have HW := Lib.hid (fun (W : World) (bq : Nat) (hq : W.cell? ⟨bq, 0, none⟩ = some (.func (.func 46) #[] #[])) => madeWhole_any (w := W) (fun W' hB => ofReal_clo (w := W') fun_trunc ((hB.cell (World.block_lt_of_cell? W _ hq)).trans hq) a))
    generalize wholeO truV (fun _ => 0) a = r at *
    obtain ⟨ka, xa, ca, na, sa, ra, fa, la⟩ := a
    unfold Ob.val Out.val at *
    simp only at *
    go_enter Tryd.func16, Tryd.ntmps16
    go_wp2_with fail
    obtain ⟨w1, hw1⟩ : ∃ W, W = (w.alloc (.cells #[.int .i64 ka, .bool xa, .int .i64 ca, .int .i64 na, .string sa, .int .i64 ra, .int .i64 fa, .int .i64 la] 38)).alloc (.cells #[.int .i64 0, .bool false, .int .i64 0, .int .i64 0, .string ⟨#[]⟩, .int .i64 0, .int .i64 0, .int .i64 0] 38) := ⟨_, rfl⟩
    rw [← hw1]
    have p10 : ∀ o, w1.cell? ⟨w.heap.size, o, none⟩ = ((w.alloc (.cells #[.int .i64 ka, .bool xa, .int .i64 ca, .int .i64 na, .string sa, .int .i64 ra, .int .i64 fa, .int .i64 la] 38)).alloc (.cells #[.int .i64 0, .bool false, .int .i64 0, .int .i64 0, .string ⟨#[]⟩, .int .i64 0, .int .i64 0, .int .i64 0] 38)).cell? ⟨w.heap.size, o, none⟩ := fun o => by rw [hw1]
    have p11 : ∀ o, w1.cell? ⟨w.heap.size + 1, o, none⟩ = ((w.alloc (.cells #[.int .i64 ka, .bool xa, .int .i64 ca, .int .i64 na, .string sa, .int .i64 ra, .int .i64 fa, .int .i64 la] 38)).alloc (.cells #[.int .i64 0, .bool false, .int .i64 0, .int .i64 0, .string ⟨#[]⟩, .int .i64 0, .int .i64 0, .int .i64 0] 38)).cell? ⟨w.heap.size + 1, o, none⟩ := fun o => by rw [hw1]
    have q1 : ∀ o, w1.frozen? ⟨w.heap.size + 1, o, none⟩ = ((w.alloc (.cells #[.int .i64 ka, .bool xa, .int .i64 ca, .int .i64 na, .string sa, .int .i64 ra, .int .i64 fa, .int .i64 la] 38)).alloc (.cells #[.int .i64 0, .bool false, .int .i64 0, .int .i64 0, .string ⟨#[]⟩, .int .i64 0, .int .i64 0, .int .i64 0] 38)).frozen? ⟨w.heap.size + 1, o, none⟩ := fun o => by rw [hw1]
    have HN1 := Lib.hid (show Nul w1 (w.heap.size + 1) from by rw [hw1]; exact alloc_at (by simp))
    have HB1 := Lib.hid (show Below w.heap.size w w1 from by rw [hw1]; exact below2 _ _ _)
    have hz0 : w.heap.size < w1.heap.size := by rw [hw1]; simp <;> omega
    have hz1 : w.heap.size + 1 < w1.heap.size := by rw [hw1]; simp <;> omega
    clear hw1
    go_region_with (first | (with_reducible refine (hN _).mono ?_; rintro e w2 ⟨bq, rfl, hcq, hb2⟩; have p20 := ruleD hb2 (w.heap.size) hz0; have p21 := ruleD hb2 (w.heap.size + 1) hz1; have q2 := ruleDF hb2 (w.heap.size + 1) hz1; have HN2 := Lib.hid (HN1.out.belowD hb2); have HB2 := Lib.hid (bthenD HB1.out hb2); have HC2 := Lib.hid hcq; have hz2 : w.heap.size + 1 < w2.heap.size := (by have h0 := hb2.size; have h1 : w1.drew.heap.size = w1.heap.size := rfl; omega); clear hb2 hcq) | (with_reducible refine (HW.out _ _ HC2.out).mono ?_; rintro e w3 ⟨rfl, hb3⟩; have p31 := rule hb3 (w.heap.size + 1) hz2; have q3 := ruleF hb3 (w.heap.size + 1) hz2; have HN3 := Lib.hid (HN2.out.below hb3); have HB3 := Lib.hid (bthen HB2.out hb3); clear hb3))
    all_goals go_wp2_with fail
    all_goals exact bodyPost_ret (results_ob2 Tryd.results16 _ _ (w.heap.size + 1) rfl rfl (put8 HN3.out _ _ _ _ _ _ _ _).blk) rfl ⟨rfl, below_put8 HB3.out (by omega) (put8 HN3.out _ _ _ _ _ _ _ _)⟩
def names1 : List (List UInt8) := [[110, 101, 103], [97, 98, 115], [99, 101, 105, 108, 105, 110, 103], [102, 108, 111, 111, 114], [114, 111, 117, 110, 100], [116, 114, 117, 110, 99, 97, 116, 101], [115, 113, 114, 116], [115, 105, 110], [99, 111, 115], [110, 111, 116]]
set_option maxHeartbeats 2000000 in
set_option maxRecDepth 100000 in
theorem one_none (name : ByteArray) (h : ∀ l ∈ names1, (name.toList == l) = false) (a : Ob) (w : World) : Calls Tryd.prog 16 #[.string name, a.val] w fun e w' => e = .returned (noO 21).val ∧ Below w.heap.size w w' := by
    unfold names1 at h
    simp only [List.mem_cons, List.not_mem_nil, or_false, forall_eq_or_imp, forall_eq] at h
    obtain ⟨h0, h1, h2, h3, h4, h5, h6, h7, h8, h9⟩ := h
    unfold noO
    obtain ⟨ka, xa, ca, na, sa, ra, fa, la⟩ := a
    unfold Ob.val Out.val at *
    simp only at *
    go_enter Tryd.func16, Tryd.ntmps16
    go_wp2_with fail
    refine bodyPost_ret (results_ob2 Tryd.results16 _ _ (w.heap.size + 1) rfl rfl (alloc_at ?_)) rfl ⟨rfl, ?_⟩
    · simp
    · exact below2 _ _ _
end Ari
end Go.Proofs.YtgbpldfcahajeaaDoor
