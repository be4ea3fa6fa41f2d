/-
  The document's own Arith: sqrt, sin, cos (made by genref.py).
-/
import Derived.Test.YtgbpldfcahajeaaDoorAriRf
import Derived.Test.YtgbpldfcahajeaaDoorAriUnw
import Derived.Deep.RegionWith
namespace Go.Proofs.YtgbpldfcahajeaaDoor
open Go.RowKit
open Fx
namespace Ari
set_option maxHeartbeats 2000000 in
set_option maxRecDepth 100000 in
theorem un_sqrt_far (a : Ob) (hn : isNumB a = true) (hz : asE a ≠ 0) (w : World) : Calls Tryd.prog 23 #[.string ⟨#[115, 113, 114, 116]⟩, a.vl] w fun e w' => RefO w (realO sqV sqE a) e w' := by
    have e0 : realO sqV sqE a = noO (asE a) := by unfold realO; rw [if_neg hz]
    rw [e0]
    clear e0
    have hX := fun W => refAs_at a W hn
    have hz' : (asE a == 0) = false := by simpa using hz
    have HZ := Lib.hid hz
    clear hz hn
    generalize asV a = x at *
    generalize asE a = ea at *
    obtain ⟨ka, xa, ca, na, sa, ra, fa, la⟩ := a
    unfold Ob.vl at *
    simp only at *
    go_enter Tryd.func23, Tryd.ntmps23
    go_wp2_with fail
    refine (hX _).mono ?_; rintro e w3 ⟨rfl, hb3⟩
    have HB3 := Lib.hid (bthen (below1 _ _) hb3)
    clear hb3
    go_wp2_with fail
    go_ret2
    exact RefO.err HZ.out HB3.out
set_option maxHeartbeats 2000000 in
set_option maxRecDepth 100000 in
theorem un_sqrt_ok (a : Ob) (hn : isNumB a = true) (hz : asE a = 0) (hu : sqE (asV a) = 0) (w : World) : Calls Tryd.prog 23 #[.string ⟨#[115, 113, 114, 116]⟩, a.vl] w fun e w' => RefO w (realO sqV sqE a) e w' := by
    have e0 : realO sqV sqE a = okO 2 (sqV (asV a)) := by unfold realO; rw [if_pos hz]; unfold madeO; rw [if_pos hu]
    rw [e0]
    clear e0
    have hX := fun W => refAs_at a W hn
    have fx := asV_fits hz
    rw [hz] at hX
    have HV := Lib.hid (fun W => refSq_any (asV a) W fx)
    clear hz hn fx
    generalize asV a = x at *
    generalize sqV x = v at *
    generalize sqE x = u at *
    subst hu
    have HG := Lib.hid (fun W => refGives_ok v W)
    obtain ⟨ka, xa, ca, na, sa, ra, fa, la⟩ := a
    unfold Ob.vl at *
    simp only at *
    go_enter Tryd.func23, Tryd.ntmps23
    go_wp2_with fail
    refine (hX _).mono ?_; rintro e w3 ⟨rfl, hb3⟩
    have HB3 := Lib.hid (bthen (below1 _ _) hb3)
    clear hb3
    go_wp2_with fail
    refine (HV.out _).mono ?_; rintro e w4 ⟨rfl, rfl⟩
    go_wp2_with fail
    refine (HG.out _).mono ?_; rintro e w4 ⟨bq, hbq, rfl, hro⟩
    have HRO := Lib.hid (hro.after HB3.out)
    clear hro
    go_wp2_with fail
    go_ret2
    exact HRO.out
set_option maxHeartbeats 2000000 in
set_option maxRecDepth 100000 in
theorem un_sqrt_er (a : Ob) (hn : isNumB a = true) (hz : asE a = 0) (hu : sqE (asV a) ≠ 0) (w : World) : Calls Tryd.prog 23 #[.string ⟨#[115, 113, 114, 116]⟩, a.vl] w fun e w' => RefO w (realO sqV sqE a) e w' := by
    have e0 : realO sqV sqE a = noO (sqE (asV a)) := by unfold realO; rw [if_pos hz]; unfold madeO; rw [if_neg hu]
    rw [e0]
    clear e0
    have hX := fun W => refAs_at a W hn
    have fx := asV_fits hz
    rw [hz] at hX
    have HV := Lib.hid (fun W => refSq_any (asV a) W fx)
    clear hz hn fx
    generalize asV a = x at *
    generalize sqV x = v at *
    generalize sqE x = u at *
    have HG := Lib.hid (fun W => refGives_no v u hu W)
    have HZ := Lib.hid hu
    clear hu
    obtain ⟨ka, xa, ca, na, sa, ra, fa, la⟩ := a
    unfold Ob.vl at *
    simp only at *
    go_enter Tryd.func23, Tryd.ntmps23
    go_wp2_with fail
    refine (hX _).mono ?_; rintro e w3 ⟨rfl, hb3⟩
    have HB3 := Lib.hid (bthen (below1 _ _) hb3)
    clear hb3
    go_wp2_with fail
    refine (HV.out _).mono ?_; rintro e w4 ⟨rfl, rfl⟩
    go_wp2_with fail
    refine (HG.out _).mono ?_; rintro e w6 ⟨rfl, rfl⟩
    go_wp2_with fail
    go_ret2
    exact RefO.err HZ.out HB3.out
theorem un_sqrt (a : Ob) (hn : isNumB a = true) (w : World) : Calls Tryd.prog 23 #[.string ⟨#[115, 113, 114, 116]⟩, a.vl] w fun e w' => RefO w (realO sqV sqE a) e w' := by
  by_cases hz : asE a = 0
  · by_cases hu : sqE (asV a) = 0
    · exact un_sqrt_ok a hn hz hu w
    · exact un_sqrt_er a hn hz hu w
  · exact un_sqrt_far a hn hz w
set_option maxHeartbeats 2000000 in
set_option maxRecDepth 100000 in
theorem ref_sqrt_no {a : Ob} {B c : Nat} {w : World} (ha : At10 w B 0 a) (hn : isNumB a = false) : Calls Tryd.prog 12 #[.string ⟨#[115, 113, 114, 116]⟩, .slice (some ⟨B, 0, none⟩) 1 c] w fun e w' => RefO w (realO sqV sqE a) e w' := by
    have e0 : realO sqV sqE a = noO 16 := by unfold realO asE; rw [hn]; first | rfl | simp
    rw [e0]
    clear e0
    have hNa := refNum_at a
    rw [hn] at hNa
    clear hn
    obtain ⟨a0, a1, a2, a3, a4, a5, a6, a7, a8, a9⟩ := ha
    simp only [Nat.zero_add] at *
    have hlt := World.block_lt_of_cell? w _ a0
    obtain ⟨ka, xa, ca, na, sa, ra, fa, la⟩ := a
    unfold Ob.vl at *
    simp only at *
    go_enter Tryd.func12, Tryd.ntmps12
    go_wp2_with fail
    refine (hNa _).mono ?_; rintro e w1 ⟨rfl, hb1⟩
    have p10 := rule hb1 (w.heap.size) (by simp <;> omega)
    have HB1 := Lib.hid (bthen (below1 _ _ ) hb1)
    have hz1 : w.heap.size < w1.heap.size := by have := hb1.size; simp at this; omega
    clear hb1
    go_wp2_with fail
    go_ret2
    exact RefO.err (by decide) HB1.out
set_option maxHeartbeats 2000000 in
set_option maxRecDepth 100000 in
theorem ref_sqrt_ok {a : Ob} {B c : Nat} {w : World} (ha : At10 w B 0 a) (hn : isNumB a = true) (hU : ∀ W, Calls Tryd.prog 23 #[.string ⟨#[115, 113, 114, 116]⟩, a.vl] W fun e w' => RefO W (realO sqV sqE a) e w') (hz : (realO sqV sqE a).e = 0) : Calls Tryd.prog 12 #[.string ⟨#[115, 113, 114, 116]⟩, .slice (some ⟨B, 0, none⟩) 1 c] w fun e w' => RefO w (realO sqV sqE a) e w' := by
    generalize realO sqV sqE a = r at *
    have HU := Lib.hid hU
    have HZ := Lib.hid hz
    have hNa := refNum_at a
    rw [hn] at hNa
    clear hn hU hz
    obtain ⟨a0, a1, a2, a3, a4, a5, a6, a7, a8, a9⟩ := ha
    simp only [Nat.zero_add] at *
    have hlt := World.block_lt_of_cell? w _ a0
    obtain ⟨ka, xa, ca, na, sa, ra, fa, la⟩ := a
    unfold Ob.vl at *
    simp only at *
    go_enter Tryd.func12, Tryd.ntmps12
    go_wp2_with fail
    refine (hNa _).mono ?_; rintro e w1 ⟨rfl, hb1⟩
    have p10 := rule hb1 (w.heap.size) (by simp <;> omega)
    have HB1 := Lib.hid (bthen (below1 _ _ ) hb1)
    have hz1 : w.heap.size < w1.heap.size := by have := hb1.size; simp at this; omega
    clear hb1
    go_wp2_with fail
    refine (HU.out _).mono ?_; rintro e w2 hro
    obtain ⟨bq, hbq, rfl, hcs⟩ := hro.ok HZ.out
    have HRO := Lib.hid (hro.after HB1.out)
    clear hro hcs hbq
    go_wp2_with fail
    go_ret2
    exact HRO.out
set_option maxHeartbeats 2000000 in
set_option maxRecDepth 100000 in
theorem ref_sqrt_er {a : Ob} {B c : Nat} {w : World} (ha : At10 w B 0 a) (hn : isNumB a = true) (hU : ∀ W, Calls Tryd.prog 23 #[.string ⟨#[115, 113, 114, 116]⟩, a.vl] W fun e w' => RefO W (realO sqV sqE a) e w') (hz : (realO sqV sqE a).e ≠ 0) : Calls Tryd.prog 12 #[.string ⟨#[115, 113, 114, 116]⟩, .slice (some ⟨B, 0, none⟩) 1 c] w fun e w' => RefO w (realO sqV sqE a) e w' := by
    generalize realO sqV sqE a = r at *
    have HU := Lib.hid hU
    have HZ := Lib.hid hz
    have hNa := refNum_at a
    rw [hn] at hNa
    clear hn hU hz
    obtain ⟨a0, a1, a2, a3, a4, a5, a6, a7, a8, a9⟩ := ha
    simp only [Nat.zero_add] at *
    have hlt := World.block_lt_of_cell? w _ a0
    obtain ⟨ka, xa, ca, na, sa, ra, fa, la⟩ := a
    unfold Ob.vl at *
    simp only at *
    go_enter Tryd.func12, Tryd.ntmps12
    go_wp2_with fail
    refine (hNa _).mono ?_; rintro e w1 ⟨rfl, hb1⟩
    have p10 := rule hb1 (w.heap.size) (by simp <;> omega)
    have HB1 := Lib.hid (bthen (below1 _ _ ) hb1)
    have hz1 : w.heap.size < w1.heap.size := by have := hb1.size; simp at this; omega
    clear hb1
    go_wp2_with fail
    refine (HU.out _).mono ?_; rintro e w2 hro
    obtain rfl := hro.no HZ.out
    have HRO := Lib.hid (hro.after HB1.out)
    clear hro
    go_wp2_with fail
    go_ret2
    exact HRO.out
theorem ref_sqrt {a : Ob} {B c : Nat} {w : World} (ha : At10 w B 0 a) : Calls Tryd.prog 12 #[.string ⟨#[115, 113, 114, 116]⟩, .slice (some ⟨B, 0, none⟩) 1 c] w fun e w' => RefO w (realO sqV sqE a) e w' := by
  cases hn : isNumB a
  · exact ref_sqrt_no ha hn
  · by_cases hz : (realO sqV sqE a).e = 0
    · exact ref_sqrt_ok ha hn (fun W => un_sqrt a hn W) hz
    · exact ref_sqrt_er ha hn (fun W => un_sqrt a hn W) hz
set_option maxHeartbeats 2000000 in
set_option maxRecDepth 100000 in
theorem un_sin_far (a : Ob) (hn : isNumB a = true) (hz : asE a ≠ 0) (w : World) : Calls Tryd.prog 23 #[.string ⟨#[115, 105, 110]⟩, a.vl] w fun e w' => RefO w (realO sinV (fun _ => 0) a) e w' := by
    have e0 : realO sinV (fun _ => 0) a = noO (asE a) := by unfold realO; rw [if_neg hz]
    rw [e0]
    clear e0
    have hX := fun W => refAs_at a W hn
    have hz' : (asE a == 0) = false := by simpa using hz
    have HZ := Lib.hid hz
    clear hz hn
    generalize asV a = x at *
    generalize asE a = ea at *
    obtain ⟨ka, xa, ca, na, sa, ra, fa, la⟩ := a
    unfold Ob.vl at *
    simp only at *
    go_enter Tryd.func23, Tryd.ntmps23
    go_wp2_with fail
    refine (hX _).mono ?_; rintro e w3 ⟨rfl, hb3⟩
    have HB3 := Lib.hid (bthen (below1 _ _) hb3)
    clear hb3
    go_wp2_with fail
    go_ret2
    exact RefO.err HZ.out HB3.out
set_option maxHeartbeats 2000000 in
set_option maxRecDepth 100000 in
theorem un_sin_ok (a : Ob) (hn : isNumB a = true) (hz : asE a = 0) (w : World) : Calls Tryd.prog 23 #[.string ⟨#[115, 105, 110]⟩, a.vl] w fun e w' => RefO w (realO sinV (fun _ => 0) a) e w' := by
    have e0 : realO sinV (fun _ => 0) a = okO 2 (sinV (asV a)) := by unfold realO; rw [if_pos hz]; rfl
    rw [e0]
    clear e0
    have hX := fun W => refAs_at a W hn
    have fx := asV_fits hz
    rw [hz] at hX
    have hV := fun W => refRotate_yes (asV a) fx W
    unfold RotY at hV
    unfold sinV
    clear hz hn fx
    generalize asV a = x at *
    generalize sinZ ((x + 32768) / 65536 + 90) = c1 at *
    generalize sinZ ((x + 32768) / 65536) = s1 at *
    have HV := Lib.hid hV
    clear hV
    have HG := Lib.hid (fun W => refGives_ok s1 W)
    obtain ⟨ka, xa, ca, na, sa, ra, fa, la⟩ := a
    unfold Ob.vl at *
    simp only at *
    go_enter Tryd.func23, Tryd.ntmps23
    go_wp2_with fail
    refine (hX _).mono ?_; rintro e w3 ⟨rfl, hb3⟩
    have HB3 := Lib.hid (bthen (below1 _ _) hb3)
    clear hb3
    go_wp2_with fail
    refine (HV.out _).mono ?_; rintro e w4 ⟨rfl, hb4⟩
    have HB4 := Lib.hid (bthen (bthen HB3.out hb4) (below1 w4 (.cells #[.int .i64 c1, .int .i64 s1, .int .i64 (-s1), .int .i64 c1, .int .i64 0, .int .i64 0] 79)))
    clear hb4
    go_wp2_with fail
    refine (HG.out _).mono ?_; rintro e w5 ⟨bq, hbq, rfl, hro⟩
    have HRO := Lib.hid (hro.after HB4.out)
    clear hro
    go_wp2_with fail
    go_ret2
    exact HRO.out
theorem un_sin (a : Ob) (hn : isNumB a = true) (w : World) : Calls Tryd.prog 23 #[.string ⟨#[115, 105, 110]⟩, a.vl] w fun e w' => RefO w (realO sinV (fun _ => 0) a) e w' := by
  by_cases hz : asE a = 0
  · exact un_sin_ok a hn hz w
  · exact un_sin_far a hn hz w
set_option maxHeartbeats 2000000 in
set_option maxRecDepth 100000 in
theorem ref_sin_no {a : Ob} {B c : Nat} {w : World} (ha : At10 w B 0 a) (hn : isNumB a = false) : Calls Tryd.prog 12 #[.string ⟨#[115, 105, 110]⟩, .slice (some ⟨B, 0, none⟩) 1 c] w fun e w' => RefO w (realO sinV (fun _ => 0) a) e w' := by
    have e0 : realO sinV (fun _ => 0) a = noO 16 := by unfold realO asE; rw [hn]; first | rfl | simp
    rw [e0]
    clear e0
    have hNa := refNum_at a
    rw [hn] at hNa
    clear hn
    obtain ⟨a0, a1, a2, a3, a4, a5, a6, a7, a8, a9⟩ := ha
    simp only [Nat.zero_add] at *
    have hlt := World.block_lt_of_cell? w _ a0
    obtain ⟨ka, xa, ca, na, sa, ra, fa, la⟩ := a
    unfold Ob.vl at *
    simp only at *
    go_enter Tryd.func12, Tryd.ntmps12
    go_wp2_with fail
    refine (hNa _).mono ?_; rintro e w1 ⟨rfl, hb1⟩
    have p10 := rule hb1 (w.heap.size) (by simp <;> omega)
    have HB1 := Lib.hid (bthen (below1 _ _ ) hb1)
    have hz1 : w.heap.size < w1.heap.size := by have := hb1.size; simp at this; omega
    clear hb1
    go_wp2_with fail
    go_ret2
    exact RefO.err (by decide) HB1.out
set_option maxHeartbeats 2000000 in
set_option maxRecDepth 100000 in
theorem ref_sin_ok {a : Ob} {B c : Nat} {w : World} (ha : At10 w B 0 a) (hn : isNumB a = true) (hU : ∀ W, Calls Tryd.prog 23 #[.string ⟨#[115, 105, 110]⟩, a.vl] W fun e w' => RefO W (realO sinV (fun _ => 0) a) e w') (hz : (realO sinV (fun _ => 0) a).e = 0) : Calls Tryd.prog 12 #[.string ⟨#[115, 105, 110]⟩, .slice (some ⟨B, 0, none⟩) 1 c] w fun e w' => RefO w (realO sinV (fun _ => 0) a) e w' := by
    generalize realO sinV (fun _ => 0) a = r at *
    have HU := Lib.hid hU
    have HZ := Lib.hid hz
    have hNa := refNum_at a
    rw [hn] at hNa
    clear hn hU hz
    obtain ⟨a0, a1, a2, a3, a4, a5, a6, a7, a8, a9⟩ := ha
    simp only [Nat.zero_add] at *
    have hlt := World.block_lt_of_cell? w _ a0
    obtain ⟨ka, xa, ca, na, sa, ra, fa, la⟩ := a
    unfold Ob.vl at *
    simp only at *
    go_enter Tryd.func12, Tryd.ntmps12
    go_wp2_with fail
    refine (hNa _).mono ?_; rintro e w1 ⟨rfl, hb1⟩
    have p10 := rule hb1 (w.heap.size) (by simp <;> omega)
    have HB1 := Lib.hid (bthen (below1 _ _ ) hb1)
    have hz1 : w.heap.size < w1.heap.size := by have := hb1.size; simp at this; omega
    clear hb1
    go_wp2_with fail
    refine (HU.out _).mono ?_; rintro e w2 hro
    obtain ⟨bq, hbq, rfl, hcs⟩ := hro.ok HZ.out
    have HRO := Lib.hid (hro.after HB1.out)
    clear hro hcs hbq
    go_wp2_with fail
    go_ret2
    exact HRO.out
set_option maxHeartbeats 2000000 in
set_option maxRecDepth 100000 in
theorem ref_sin_er {a : Ob} {B c : Nat} {w : World} (ha : At10 w B 0 a) (hn : isNumB a = true) (hU : ∀ W, Calls Tryd.prog 23 #[.string ⟨#[115, 105, 110]⟩, a.vl] W fun e w' => RefO W (realO sinV (fun _ => 0) a) e w') (hz : (realO sinV (fun _ => 0) a).e ≠ 0) : Calls Tryd.prog 12 #[.string ⟨#[115, 105, 110]⟩, .slice (some ⟨B, 0, none⟩) 1 c] w fun e w' => RefO w (realO sinV (fun _ => 0) a) e w' := by
    generalize realO sinV (fun _ => 0) a = r at *
    have HU := Lib.hid hU
    have HZ := Lib.hid hz
    have hNa := refNum_at a
    rw [hn] at hNa
    clear hn hU hz
    obtain ⟨a0, a1, a2, a3, a4, a5, a6, a7, a8, a9⟩ := ha
    simp only [Nat.zero_add] at *
    have hlt := World.block_lt_of_cell? w _ a0
    obtain ⟨ka, xa, ca, na, sa, ra, fa, la⟩ := a
    unfold Ob.vl at *
    simp only at *
    go_enter Tryd.func12, Tryd.ntmps12
    go_wp2_with fail
    refine (hNa _).mono ?_; rintro e w1 ⟨rfl, hb1⟩
    have p10 := rule hb1 (w.heap.size) (by simp <;> omega)
    have HB1 := Lib.hid (bthen (below1 _ _ ) hb1)
    have hz1 : w.heap.size < w1.heap.size := by have := hb1.size; simp at this; omega
    clear hb1
    go_wp2_with fail
    refine (HU.out _).mono ?_; rintro e w2 hro
    obtain rfl := hro.no HZ.out
    have HRO := Lib.hid (hro.after HB1.out)
    clear hro
    go_wp2_with fail
    go_ret2
    exact HRO.out
theorem ref_sin {a : Ob} {B c : Nat} {w : World} (ha : At10 w B 0 a) : Calls Tryd.prog 12 #[.string ⟨#[115, 105, 110]⟩, .slice (some ⟨B, 0, none⟩) 1 c] w fun e w' => RefO w (realO sinV (fun _ => 0) a) e w' := by
  cases hn : isNumB a
  · exact ref_sin_no ha hn
  · by_cases hz : (realO sinV (fun _ => 0) a).e = 0
    · exact ref_sin_ok ha hn (fun W => un_sin a hn W) hz
    · exact ref_sin_er ha hn (fun W => un_sin a hn W) hz
set_option maxHeartbeats 2000000 in
set_option maxRecDepth 100000 in
theorem un_cos_far (a : Ob) (hn : isNumB a = true) (hz : asE a ≠ 0) (w : World) : Calls Tryd.prog 23 #[.string ⟨#[99, 111, 115]⟩, a.vl] w fun e w' => RefO w (realO cosV (fun _ => 0) a) e w' := by
    have e0 : realO cosV (fun _ => 0) a = noO (asE a) := by unfold realO; rw [if_neg hz]
    rw [e0]
    clear e0
    have hX := fun W => refAs_at a W hn
    have hz' : (asE a == 0) = false := by simpa using hz
    have HZ := Lib.hid hz
    clear hz hn
    generalize asV a = x at *
    generalize asE a = ea at *
    obtain ⟨ka, xa, ca, na, sa, ra, fa, la⟩ := a
    unfold Ob.vl at *
    simp only at *
    go_enter Tryd.func23, Tryd.ntmps23
    go_wp2_with fail
    refine (hX _).mono ?_; rintro e w3 ⟨rfl, hb3⟩
    have HB3 := Lib.hid (bthen (below1 _ _) hb3)
    clear hb3
    go_wp2_with fail
    go_ret2
    exact RefO.err HZ.out HB3.out
set_option maxHeartbeats 2000000 in
set_option maxRecDepth 100000 in
theorem un_cos_ok (a : Ob) (hn : isNumB a = true) (hz : asE a = 0) (w : World) : Calls Tryd.prog 23 #[.string ⟨#[99, 111, 115]⟩, a.vl] w fun e w' => RefO w (realO cosV (fun _ => 0) a) e w' := by
    have e0 : realO cosV (fun _ => 0) a = okO 2 (cosV (asV a)) := by unfold realO; rw [if_pos hz]; rfl
    rw [e0]
    clear e0
    have hX := fun W => refAs_at a W hn
    have fx := asV_fits hz
    rw [hz] at hX
    have hV := fun W => refRotate_yes (asV a) fx W
    unfold RotY at hV
    unfold cosV
    clear hz hn fx
    generalize asV a = x at *
    generalize sinZ ((x + 32768) / 65536 + 90) = c1 at *
    generalize sinZ ((x + 32768) / 65536) = s1 at *
    have HV := Lib.hid hV
    clear hV
    have HG := Lib.hid (fun W => refGives_ok c1 W)
    obtain ⟨ka, xa, ca, na, sa, ra, fa, la⟩ := a
    unfold Ob.vl at *
    simp only at *
    go_enter Tryd.func23, Tryd.ntmps23
    go_wp2_with fail
    refine (hX _).mono ?_; rintro e w3 ⟨rfl, hb3⟩
    have HB3 := Lib.hid (bthen (below1 _ _) hb3)
    clear hb3
    go_wp2_with fail
    refine (HV.out _).mono ?_; rintro e w4 ⟨rfl, hb4⟩
    have HB4 := Lib.hid (bthen (bthen HB3.out hb4) (below1 w4 (.cells #[.int .i64 c1, .int .i64 s1, .int .i64 (-s1), .int .i64 c1, .int .i64 0, .int .i64 0] 79)))
    clear hb4
    go_wp2_with fail
    refine (HG.out _).mono ?_; rintro e w5 ⟨bq, hbq, rfl, hro⟩
    have HRO := Lib.hid (hro.after HB4.out)
    clear hro
    go_wp2_with fail
    go_ret2
    exact HRO.out
theorem un_cos (a : Ob) (hn : isNumB a = true) (w : World) : Calls Tryd.prog 23 #[.string ⟨#[99, 111, 115]⟩, a.vl] w fun e w' => RefO w (realO cosV (fun _ => 0) a) e w' := by
  by_cases hz : asE a = 0
  · exact un_cos_ok a hn hz w
  · exact un_cos_far a hn hz w
set_option maxHeartbeats 2000000 in
set_option maxRecDepth 100000 in
theorem ref_cos_no {a : Ob} {B c : Nat} {w : World} (ha : At10 w B 0 a) (hn : isNumB a = false) : Calls Tryd.prog 12 #[.string ⟨#[99, 111, 115]⟩, .slice (some ⟨B, 0, none⟩) 1 c] w fun e w' => RefO w (realO cosV (fun _ => 0) a) e w' := by
    have e0 : realO cosV (fun _ => 0) a = noO 16 := by unfold realO asE; rw [hn]; first | rfl | simp
    rw [e0]
    clear e0
    have hNa := refNum_at a
    rw [hn] at hNa
    clear hn
    obtain ⟨a0, a1, a2, a3, a4, a5, a6, a7, a8, a9⟩ := ha
    simp only [Nat.zero_add] at *
    have hlt := World.block_lt_of_cell? w _ a0
    obtain ⟨ka, xa, ca, na, sa, ra, fa, la⟩ := a
    unfold Ob.vl at *
    simp only at *
    go_enter Tryd.func12, Tryd.ntmps12
    go_wp2_with fail
    refine (hNa _).mono ?_; rintro e w1 ⟨rfl, hb1⟩
    have p10 := rule hb1 (w.heap.size) (by simp <;> omega)
    have HB1 := Lib.hid (bthen (below1 _ _ ) hb1)
    have hz1 : w.heap.size < w1.heap.size := by have := hb1.size; simp at this; omega
    clear hb1
    go_wp2_with fail
    go_ret2
    exact RefO.err (by decide) HB1.out
set_option maxHeartbeats 2000000 in
set_option maxRecDepth 100000 in
theorem ref_cos_ok {a : Ob} {B c : Nat} {w : World} (ha : At10 w B 0 a) (hn : isNumB a = true) (hU : ∀ W, Calls Tryd.prog 23 #[.string ⟨#[99, 111, 115]⟩, a.vl] W fun e w' => RefO W (realO cosV (fun _ => 0) a) e w') (hz : (realO cosV (fun _ => 0) a).e = 0) : Calls Tryd.prog 12 #[.string ⟨#[99, 111, 115]⟩, .slice (some ⟨B, 0, none⟩) 1 c] w fun e w' => RefO w (realO cosV (fun _ => 0) a) e w' := by
    generalize realO cosV (fun _ => 0) a = r at *
    have HU := Lib.hid hU
    have HZ := Lib.hid hz
    have hNa := refNum_at a
    rw [hn] at hNa
    clear hn hU hz
    obtain ⟨a0, a1, a2, a3, a4, a5, a6, a7, a8, a9⟩ := ha
    simp only [Nat.zero_add] at *
    have hlt := World.block_lt_of_cell? w _ a0
    obtain ⟨ka, xa, ca, na, sa, ra, fa, la⟩ := a
    unfold Ob.vl at *
    simp only at *
    go_enter Tryd.func12, Tryd.ntmps12
    go_wp2_with fail
    refine (hNa _).mono ?_; rintro e w1 ⟨rfl, hb1⟩
    have p10 := rule hb1 (w.heap.size) (by simp <;> omega)
    have HB1 := Lib.hid (bthen (below1 _ _ ) hb1)
    have hz1 : w.heap.size < w1.heap.size := by have := hb1.size; simp at this; omega
    clear hb1
    go_wp2_with fail
    refine (HU.out _).mono ?_; rintro e w2 hro
    obtain ⟨bq, hbq, rfl, hcs⟩ := hro.ok HZ.out
    have HRO := Lib.hid (hro.after HB1.out)
    clear hro hcs hbq
    go_wp2_with fail
    go_ret2
    exact HRO.out
set_option maxHeartbeats 2000000 in
set_option maxRecDepth 100000 in
theorem ref_cos_er {a : Ob} {B c : Nat} {w : World} (ha : At10 w B 0 a) (hn : isNumB a = true) (hU : ∀ W, Calls Tryd.prog 23 #[.string ⟨#[99, 111, 115]⟩, a.vl] W fun e w' => RefO W (realO cosV (fun _ => 0) a) e w') (hz : (realO cosV (fun _ => 0) a).e ≠ 0) : Calls Tryd.prog 12 #[.string ⟨#[99, 111, 115]⟩, .slice (some ⟨B, 0, none⟩) 1 c] w fun e w' => RefO w (realO cosV (fun _ => 0) a) e w' := by
    generalize realO cosV (fun _ => 0) a = r at *
    have HU := Lib.hid hU
    have HZ := Lib.hid hz
    have hNa := refNum_at a
    rw [hn] at hNa
    clear hn hU hz
    obtain ⟨a0, a1, a2, a3, a4, a5, a6, a7, a8, a9⟩ := ha
    simp only [Nat.zero_add] at *
    have hlt := World.block_lt_of_cell? w _ a0
    obtain ⟨ka, xa, ca, na, sa, ra, fa, la⟩ := a
    unfold Ob.vl at *
    simp only at *
    go_enter Tryd.func12, Tryd.ntmps12
    go_wp2_with fail
    refine (hNa _).mono ?_; rintro e w1 ⟨rfl, hb1⟩
    have p10 := rule hb1 (w.heap.size) (by simp <;> omega)
    have HB1 := Lib.hid (bthen (below1 _ _ ) hb1)
    have hz1 : w.heap.size < w1.heap.size := by have := hb1.size; simp at this; omega
    clear hb1
    go_wp2_with fail
    refine (HU.out _).mono ?_; rintro e w2 hro
    obtain rfl := hro.no HZ.out
    have HRO := Lib.hid (hro.after HB1.out)
    clear hro
    go_wp2_with fail
    go_ret2
    exact HRO.out
theorem ref_cos {a : Ob} {B c : Nat} {w : World} (ha : At10 w B 0 a) : Calls Tryd.prog 12 #[.string ⟨#[99, 111, 115]⟩, .slice (some ⟨B, 0, none⟩) 1 c] w fun e w' => RefO w (realO cosV (fun _ => 0) a) e w' := by
  cases hn : isNumB a
  · exact ref_cos_no ha hn
  · by_cases hz : (realO cosV (fun _ => 0) a).e = 0
    · exact ref_cos_ok ha hn (fun W => un_cos a hn W) hz
    · exact ref_cos_er ha hn (fun W => un_cos a hn W) hz
end Ari
end Go.Proofs.YtgbpldfcahajeaaDoor
