/-
  The document's own Arith: ceiling, floor, round, truncate (made by genref.py).
-/
import Derived.Test.YtgbpldfcahajeaaDoorAriRf
import Derived.Test.YtgbpldfcahajeaaDoorAriUnw
import Derived.Deep.RegionWith
namespace Go.Proofs.YtgbpldfcahajeaaDoor
open Go.RowKit
open Fx
namespace Ari
set_option maxHeartbeats 2000000 in
set_option maxRecDepth 100000 in
theorem un_ceiling_int (a : Ob) (hn : isNumB a = true) (hk : (a.kind == 1) = true) (w : World) : Calls Tryd.prog 23 #[.string ⟨#[99, 101, 105, 108, 105, 110, 103]⟩, a.vl] w fun e w' => RefO w (wholeO ceilV ceilE a) e w' := by
    have hi : isIntB a = true := by rw [isInt_iff]; exact ⟨by simpa using hk, ((isNum_iff a).1 hn).2⟩
    have e0 : wholeO ceilV ceilE a = okO 1 a.n := by unfold wholeO; rw [if_pos hi]
    rw [e0]
    clear e0 hi hn
    have hW := fun W => refWhole_at a.n W
    have hO := fun W => refOne_at 1 a.n W
    obtain ⟨ka, xa, ca, na, sa, ra, fa, la⟩ := a
    unfold mk Ob.vl at *
    simp only at *
    go_enter Tryd.func23, Tryd.ntmps23
    go_wp2_with fail
    refine (hW _).mono ?_; rintro e w1 ⟨rfl, hb1⟩
    have HB1 := Lib.hid (bthen (below1 _ _) hb1)
    clear hb1
    go_wp2_with fail
    refine (hO _).mono ?_; rintro e w2 ⟨bq, hbq, rfl, hro⟩
    have HRO := Lib.hid (hro.after HB1.out)
    clear hro
    go_wp2_with fail
    go_ret2
    exact HRO.out
set_option maxHeartbeats 2000000 in
set_option maxRecDepth 100000 in
theorem un_ceiling_realok (a : Ob) (hn : isNumB a = true) (hk : (a.kind == 1) = false) (hz : ceilE a.n = 0) (w : World) : Calls Tryd.prog 23 #[.string ⟨#[99, 101, 105, 108, 105, 110, 103]⟩, a.vl] w fun e w' => RefO w (wholeO ceilV ceilE a) e w' := by
    have hk2 : ¬ a.kind = 1 := by simpa using hk
    have hni : isIntB a = false := by
      cases h : isIntB a
      · rfl
      · exact absurd ((isInt_iff a).1 h).1 hk2
    have ea : asE a = 0 := by unfold asE; rw [if_pos hn, if_neg hk2]
    have va : asV a = a.n := by unfold asV; rw [if_pos hn, if_neg hk2]
    have hf : fits a.n = true := (fits_iff a.n).2 ((isNum_iff a).1 hn).2
    have e0 : wholeO ceilV ceilE a = okO 2 (ceilV a.n) := by unfold wholeO realO; rw [hni, if_neg (by simp), if_pos ea, va]; unfold madeO; rw [if_pos hz]
    rw [e0]
    clear e0 ea va hni hk2 hn hf
    have HV := Lib.hid (fun W => refCeiling_any a.n W)
    generalize ceilV a.n = v at *
    generalize ceilE a.n = u at *
    subst hz
    have HG := Lib.hid (fun W => refGives_ok v W)
    obtain ⟨ka, xa, ca, na, sa, ra, fa, la⟩ := a
    unfold Ob.vl
    simp only at *
    go_enter Tryd.func23, Tryd.ntmps23
    go_wp2_with fail
    refine (HV.out _).mono ?_; rintro e w1 ⟨rfl, rfl⟩
    go_wp2_with fail
    have HB1 := Lib.hid (below1 w (.cells #[.int .i64 ka, .bool xa, .int .i64 ca, .int .i64 na, .string sa, .pointer none, .pointer none, .pointer none, .int .i64 0, .int .i64 0] 35))
    refine (HG.out _).mono ?_; rintro e w2 ⟨bq, hbq, rfl, hro⟩
    have HRO := Lib.hid (hro.after HB1.out)
    clear hro
    go_wp2_with fail
    go_ret2
    exact HRO.out
set_option maxHeartbeats 2000000 in
set_option maxRecDepth 100000 in
theorem un_ceiling_realer (a : Ob) (hn : isNumB a = true) (hk : (a.kind == 1) = false) (hz : ceilE a.n ≠ 0) (w : World) : Calls Tryd.prog 23 #[.string ⟨#[99, 101, 105, 108, 105, 110, 103]⟩, a.vl] w fun e w' => RefO w (wholeO ceilV ceilE a) e w' := by
    have hk2 : ¬ a.kind = 1 := by simpa using hk
    have hni : isIntB a = false := by
      cases h : isIntB a
      · rfl
      · exact absurd ((isInt_iff a).1 h).1 hk2
    have ea : asE a = 0 := by unfold asE; rw [if_pos hn, if_neg hk2]
    have va : asV a = a.n := by unfold asV; rw [if_pos hn, if_neg hk2]
    have hf : fits a.n = true := (fits_iff a.n).2 ((isNum_iff a).1 hn).2
    have e0 : wholeO ceilV ceilE a = noO (ceilE a.n) := by unfold wholeO realO; rw [hni, if_neg (by simp), if_pos ea, va]; unfold madeO; rw [if_neg hz]
    rw [e0]
    clear e0 ea va hni hk2 hn hf
    have HV := Lib.hid (fun W => refCeiling_any a.n W)
    generalize ceilV a.n = v at *
    generalize ceilE a.n = u at *
    have HG := Lib.hid (fun W => refGives_no v u hz W)
    have HZ := Lib.hid hz
    clear hz
    obtain ⟨ka, xa, ca, na, sa, ra, fa, la⟩ := a
    unfold Ob.vl
    simp only at *
    go_enter Tryd.func23, Tryd.ntmps23
    go_wp2_with fail
    refine (HV.out _).mono ?_; rintro e w1 ⟨rfl, rfl⟩
    go_wp2_with fail
    have HB1 := Lib.hid (below1 w (.cells #[.int .i64 ka, .bool xa, .int .i64 ca, .int .i64 na, .string sa, .pointer none, .pointer none, .pointer none, .int .i64 0, .int .i64 0] 35))
    refine (HG.out _).mono ?_; rintro e w2 ⟨rfl, rfl⟩
    go_wp2_with fail
    go_ret2
    exact RefO.err HZ.out HB1.out
theorem un_ceiling (a : Ob) (hn : isNumB a = true) (w : World) : Calls Tryd.prog 23 #[.string ⟨#[99, 101, 105, 108, 105, 110, 103]⟩, a.vl] w fun e w' => RefO w (wholeO ceilV ceilE a) e w' := by
  cases hk : (a.kind == 1)
  · by_cases hz : ceilE a.n = 0
    · exact un_ceiling_realok a hn hk hz w
    · exact un_ceiling_realer a hn hk hz w
  · exact un_ceiling_int a hn hk w
set_option maxHeartbeats 2000000 in
set_option maxRecDepth 100000 in
theorem ref_ceiling_no {a : Ob} {B c : Nat} {w : World} (ha : At10 w B 0 a) (hn : isNumB a = false) : Calls Tryd.prog 12 #[.string ⟨#[99, 101, 105, 108, 105, 110, 103]⟩, .slice (some ⟨B, 0, none⟩) 1 c] w fun e w' => RefO w (wholeO ceilV ceilE a) e w' := by
    have e0 : wholeO ceilV ceilE a = noO 16 := by unfold wholeO realO; rw [if_neg (fun h => by rw [isInt_num h] at hn; cases hn)]; unfold asE; rw [hn]; first | rfl | simp
    rw [e0]
    clear e0
    have hNa := refNum_at a
    rw [hn] at hNa
    clear hn
    obtain ⟨a0, a1, a2, a3, a4, a5, a6, a7, a8, a9⟩ := ha
    simp only [Nat.zero_add] at *
    have hlt := World.block_lt_of_cell? w _ a0
    obtain ⟨ka, xa, ca, na, sa, ra, fa, la⟩ := a
    unfold Ob.vl at *
    simp only at *
    go_enter Tryd.func12, Tryd.ntmps12
    go_wp2_with fail
    refine (hNa _).mono ?_; rintro e w1 ⟨rfl, hb1⟩
    have p10 := rule hb1 (w.heap.size) (by simp <;> omega)
    have HB1 := Lib.hid (bthen (below1 _ _ ) hb1)
    have hz1 : w.heap.size < w1.heap.size := by have := hb1.size; simp at this; omega
    clear hb1
    go_wp2_with fail
    go_ret2
    exact RefO.err (by decide) HB1.out
set_option maxHeartbeats 2000000 in
set_option maxRecDepth 100000 in
theorem ref_ceiling_ok {a : Ob} {B c : Nat} {w : World} (ha : At10 w B 0 a) (hn : isNumB a = true) (hU : ∀ W, Calls Tryd.prog 23 #[.string ⟨#[99, 101, 105, 108, 105, 110, 103]⟩, a.vl] W fun e w' => RefO W (wholeO ceilV ceilE a) e w') (hz : (wholeO ceilV ceilE a).e = 0) : Calls Tryd.prog 12 #[.string ⟨#[99, 101, 105, 108, 105, 110, 103]⟩, .slice (some ⟨B, 0, none⟩) 1 c] w fun e w' => RefO w (wholeO ceilV ceilE a) e w' := by
    generalize wholeO ceilV ceilE a = r at *
    have HU := Lib.hid hU
    have HZ := Lib.hid hz
    have hNa := refNum_at a
    rw [hn] at hNa
    clear hn hU hz
    obtain ⟨a0, a1, a2, a3, a4, a5, a6, a7, a8, a9⟩ := ha
    simp only [Nat.zero_add] at *
    have hlt := World.block_lt_of_cell? w _ a0
    obtain ⟨ka, xa, ca, na, sa, ra, fa, la⟩ := a
    unfold Ob.vl at *
    simp only at *
    go_enter Tryd.func12, Tryd.ntmps12
    go_wp2_with fail
    refine (hNa _).mono ?_; rintro e w1 ⟨rfl, hb1⟩
    have p10 := rule hb1 (w.heap.size) (by simp <;> omega)
    have HB1 := Lib.hid (bthen (below1 _ _ ) hb1)
    have hz1 : w.heap.size < w1.heap.size := by have := hb1.size; simp at this; omega
    clear hb1
    go_wp2_with fail
    refine (HU.out _).mono ?_; rintro e w2 hro
    obtain ⟨bq, hbq, rfl, hcs⟩ := hro.ok HZ.out
    have HRO := Lib.hid (hro.after HB1.out)
    clear hro hcs hbq
    go_wp2_with fail
    go_ret2
    exact HRO.out
set_option maxHeartbeats 2000000 in
set_option maxRecDepth 100000 in
theorem ref_ceiling_er {a : Ob} {B c : Nat} {w : World} (ha : At10 w B 0 a) (hn : isNumB a = true) (hU : ∀ W, Calls Tryd.prog 23 #[.string ⟨#[99, 101, 105, 108, 105, 110, 103]⟩, a.vl] W fun e w' => RefO W (wholeO ceilV ceilE a) e w') (hz : (wholeO ceilV ceilE a).e ≠ 0) : Calls Tryd.prog 12 #[.string ⟨#[99, 101, 105, 108, 105, 110, 103]⟩, .slice (some ⟨B, 0, none⟩) 1 c] w fun e w' => RefO w (wholeO ceilV ceilE a) e w' := by
    generalize wholeO ceilV ceilE a = r at *
    have HU := Lib.hid hU
    have HZ := Lib.hid hz
    have hNa := refNum_at a
    rw [hn] at hNa
    clear hn hU hz
    obtain ⟨a0, a1, a2, a3, a4, a5, a6, a7, a8, a9⟩ := ha
    simp only [Nat.zero_add] at *
    have hlt := World.block_lt_of_cell? w _ a0
    obtain ⟨ka, xa, ca, na, sa, ra, fa, la⟩ := a
    unfold Ob.vl at *
    simp only at *
    go_enter Tryd.func12, Tryd.ntmps12
    go_wp2_with fail
    refine (hNa _).mono ?_; rintro e w1 ⟨rfl, hb1⟩
    have p10 := rule hb1 (w.heap.size) (by simp <;> omega)
    have HB1 := Lib.hid (bthen (below1 _ _ ) hb1)
    have hz1 : w.heap.size < w1.heap.size := by have := hb1.size; simp at this; omega
    clear hb1
    go_wp2_with fail
    refine (HU.out _).mono ?_; rintro e w2 hro
    obtain rfl := hro.no HZ.out
    have HRO := Lib.hid (hro.after HB1.out)
    clear hro
    go_wp2_with fail
    go_ret2
    exact HRO.out
theorem ref_ceiling {a : Ob} {B c : Nat} {w : World} (ha : At10 w B 0 a) : Calls Tryd.prog 12 #[.string ⟨#[99, 101, 105, 108, 105, 110, 103]⟩, .slice (some ⟨B, 0, none⟩) 1 c] w fun e w' => RefO w (wholeO ceilV ceilE a) e w' := by
  cases hn : isNumB a
  · exact ref_ceiling_no ha hn
  · by_cases hz : (wholeO ceilV ceilE a).e = 0
    · exact ref_ceiling_ok ha hn (fun W => un_ceiling a hn W) hz
    · exact ref_ceiling_er ha hn (fun W => un_ceiling a hn W) hz
set_option maxHeartbeats 2000000 in
set_option maxRecDepth 100000 in
theorem un_round_int (a : Ob) (hn : isNumB a = true) (hk : (a.kind == 1) = true) (w : World) : Calls Tryd.prog 23 #[.string ⟨#[114, 111, 117, 110, 100]⟩, a.vl] w fun e w' => RefO w (wholeO rouV rouE a) e w' := by
    have hi : isIntB a = true := by rw [isInt_iff]; exact ⟨by simpa using hk, ((isNum_iff a).1 hn).2⟩
    have e0 : wholeO rouV rouE a = okO 1 a.n := by unfold wholeO; rw [if_pos hi]
    rw [e0]
    clear e0 hi hn
    have hW := fun W => refWhole_at a.n W
    have hO := fun W => refOne_at 1 a.n W
    obtain ⟨ka, xa, ca, na, sa, ra, fa, la⟩ := a
    unfold mk Ob.vl at *
    simp only at *
    go_enter Tryd.func23, Tryd.ntmps23
    go_wp2_with fail
    refine (hW _).mono ?_; rintro e w1 ⟨rfl, hb1⟩
    have HB1 := Lib.hid (bthen (below1 _ _) hb1)
    clear hb1
    go_wp2_with fail
    refine (hO _).mono ?_; rintro e w2 ⟨bq, hbq, rfl, hro⟩
    have HRO := Lib.hid (hro.after HB1.out)
    clear hro
    go_wp2_with fail
    go_ret2
    exact HRO.out
set_option maxHeartbeats 2000000 in
set_option maxRecDepth 100000 in
theorem un_round_realok (a : Ob) (hn : isNumB a = true) (hk : (a.kind == 1) = false) (hz : rouE a.n = 0) (w : World) : Calls Tryd.prog 23 #[.string ⟨#[114, 111, 117, 110, 100]⟩, a.vl] w fun e w' => RefO w (wholeO rouV rouE a) e w' := by
    have hk2 : ¬ a.kind = 1 := by simpa using hk
    have hni : isIntB a = false := by
      cases h : isIntB a
      · rfl
      · exact absurd ((isInt_iff a).1 h).1 hk2
    have ea : asE a = 0 := by unfold asE; rw [if_pos hn, if_neg hk2]
    have va : asV a = a.n := by unfold asV; rw [if_pos hn, if_neg hk2]
    have hf : fits a.n = true := (fits_iff a.n).2 ((isNum_iff a).1 hn).2
    have e0 : wholeO rouV rouE a = okO 2 (rouV a.n) := by unfold wholeO realO; rw [hni, if_neg (by simp), if_pos ea, va]; unfold madeO; rw [if_pos hz]
    rw [e0]
    clear e0 ea va hni hk2 hn hf
    have HV := Lib.hid (fun W => refRound_any a.n W)
    generalize rouV a.n = v at *
    generalize rouE a.n = u at *
    subst hz
    have HG := Lib.hid (fun W => refGives_ok v W)
    obtain ⟨ka, xa, ca, na, sa, ra, fa, la⟩ := a
    unfold Ob.vl
    simp only at *
    go_enter Tryd.func23, Tryd.ntmps23
    go_wp2_with fail
    refine (HV.out _).mono ?_; rintro e w1 ⟨rfl, rfl⟩
    go_wp2_with fail
    have HB1 := Lib.hid (below1 w (.cells #[.int .i64 ka, .bool xa, .int .i64 ca, .int .i64 na, .string sa, .pointer none, .pointer none, .pointer none, .int .i64 0, .int .i64 0] 35))
    refine (HG.out _).mono ?_; rintro e w2 ⟨bq, hbq, rfl, hro⟩
    have HRO := Lib.hid (hro.after HB1.out)
    clear hro
    go_wp2_with fail
    go_ret2
    exact HRO.out
set_option maxHeartbeats 2000000 in
set_option maxRecDepth 100000 in
theorem un_round_realer (a : Ob) (hn : isNumB a = true) (hk : (a.kind == 1) = false) (hz : rouE a.n ≠ 0) (w : World) : Calls Tryd.prog 23 #[.string ⟨#[114, 111, 117, 110, 100]⟩, a.vl] w fun e w' => RefO w (wholeO rouV rouE a) e w' := by
    have hk2 : ¬ a.kind = 1 := by simpa using hk
    have hni : isIntB a = false := by
      cases h : isIntB a
      · rfl
      · exact absurd ((isInt_iff a).1 h).1 hk2
    have ea : asE a = 0 := by unfold asE; rw [if_pos hn, if_neg hk2]
    have va : asV a = a.n := by unfold asV; rw [if_pos hn, if_neg hk2]
    have hf : fits a.n = true := (fits_iff a.n).2 ((isNum_iff a).1 hn).2
    have e0 : wholeO rouV rouE a = noO (rouE a.n) := by unfold wholeO realO; rw [hni, if_neg (by simp), if_pos ea, va]; unfold madeO; rw [if_neg hz]
    rw [e0]
    clear e0 ea va hni hk2 hn hf
    have HV := Lib.hid (fun W => refRound_any a.n W)
    generalize rouV a.n = v at *
    generalize rouE a.n = u at *
    have HG := Lib.hid (fun W => refGives_no v u hz W)
    have HZ := Lib.hid hz
    clear hz
    obtain ⟨ka, xa, ca, na, sa, ra, fa, la⟩ := a
    unfold Ob.vl
    simp only at *
    go_enter Tryd.func23, Tryd.ntmps23
    go_wp2_with fail
    refine (HV.out _).mono ?_; rintro e w1 ⟨rfl, rfl⟩
    go_wp2_with fail
    have HB1 := Lib.hid (below1 w (.cells #[.int .i64 ka, .bool xa, .int .i64 ca, .int .i64 na, .string sa, .pointer none, .pointer none, .pointer none, .int .i64 0, .int .i64 0] 35))
    refine (HG.out _).mono ?_; rintro e w2 ⟨rfl, rfl⟩
    go_wp2_with fail
    go_ret2
    exact RefO.err HZ.out HB1.out
theorem un_round (a : Ob) (hn : isNumB a = true) (w : World) : Calls Tryd.prog 23 #[.string ⟨#[114, 111, 117, 110, 100]⟩, a.vl] w fun e w' => RefO w (wholeO rouV rouE a) e w' := by
  cases hk : (a.kind == 1)
  · by_cases hz : rouE a.n = 0
    · exact un_round_realok a hn hk hz w
    · exact un_round_realer a hn hk hz w
  · exact un_round_int a hn hk w
set_option maxHeartbeats 2000000 in
set_option maxRecDepth 100000 in
theorem ref_round_no {a : Ob} {B c : Nat} {w : World} (ha : At10 w B 0 a) (hn : isNumB a = false) : Calls Tryd.prog 12 #[.string ⟨#[114, 111, 117, 110, 100]⟩, .slice (some ⟨B, 0, none⟩) 1 c] w fun e w' => RefO w (wholeO rouV rouE a) e w' := by
    have e0 : wholeO rouV rouE a = noO 16 := by unfold wholeO realO; rw [if_neg (fun h => by rw [isInt_num h] at hn; cases hn)]; unfold asE; rw [hn]; first | rfl | simp
    rw [e0]
    clear e0
    have hNa := refNum_at a
    rw [hn] at hNa
    clear hn
    obtain ⟨a0, a1, a2, a3, a4, a5, a6, a7, a8, a9⟩ := ha
    simp only [Nat.zero_add] at *
    have hlt := World.block_lt_of_cell? w _ a0
    obtain ⟨ka, xa, ca, na, sa, ra, fa, la⟩ := a
    unfold Ob.vl at *
    simp only at *
    go_enter Tryd.func12, Tryd.ntmps12
    go_wp2_with fail
    refine (hNa _).mono ?_; rintro e w1 ⟨rfl, hb1⟩
    have p10 := rule hb1 (w.heap.size) (by simp <;> omega)
    have HB1 := Lib.hid (bthen (below1 _ _ ) hb1)
    have hz1 : w.heap.size < w1.heap.size := by have := hb1.size; simp at this; omega
    clear hb1
    go_wp2_with fail
    go_ret2
    exact RefO.err (by decide) HB1.out
set_option maxHeartbeats 2000000 in
set_option maxRecDepth 100000 in
theorem ref_round_ok {a : Ob} {B c : Nat} {w : World} (ha : At10 w B 0 a) (hn : isNumB a = true) (hU : ∀ W, Calls Tryd.prog 23 #[.string ⟨#[114, 111, 117, 110, 100]⟩, a.vl] W fun e w' => RefO W (wholeO rouV rouE a) e w') (hz : (wholeO rouV rouE a).e = 0) : Calls Tryd.prog 12 #[.string ⟨#[114, 111, 117, 110, 100]⟩, .slice (some ⟨B, 0, none⟩) 1 c] w fun e w' => RefO w (wholeO rouV rouE a) e w' := by
    generalize wholeO rouV rouE a = r at *
    have HU := Lib.hid hU
    have HZ := Lib.hid hz
    have hNa := refNum_at a
    rw [hn] at hNa
    clear hn hU hz
    obtain ⟨a0, a1, a2, a3, a4, a5, a6, a7, a8, a9⟩ := ha
    simp only [Nat.zero_add] at *
    have hlt := World.block_lt_of_cell? w _ a0
    obtain ⟨ka, xa, ca, na, sa, ra, fa, la⟩ := a
    unfold Ob.vl at *
    simp only at *
    go_enter Tryd.func12, Tryd.ntmps12
    go_wp2_with fail
    refine (hNa _).mono ?_; rintro e w1 ⟨rfl, hb1⟩
    have p10 := rule hb1 (w.heap.size) (by simp <;> omega)
    have HB1 := Lib.hid (bthen (below1 _ _ ) hb1)
    have hz1 : w.heap.size < w1.heap.size := by have := hb1.size; simp at this; omega
    clear hb1
    go_wp2_with fail
    refine (HU.out _).mono ?_; rintro e w2 hro
    obtain ⟨bq, hbq, rfl, hcs⟩ := hro.ok HZ.out
    have HRO := Lib.hid (hro.after HB1.out)
    clear hro hcs hbq
    go_wp2_with fail
    go_ret2
    exact HRO.out
set_option maxHeartbeats 2000000 in
set_option maxRecDepth 100000 in
theorem ref_round_er {a : Ob} {B c : Nat} {w : World} (ha : At10 w B 0 a) (hn : isNumB a = true) (hU : ∀ W, Calls Tryd.prog 23 #[.string ⟨#[114, 111, 117, 110, 100]⟩, a.vl] W fun e w' => RefO W (wholeO rouV rouE a) e w') (hz : (wholeO rouV rouE a).e ≠ 0) : Calls Tryd.prog 12 #[.string ⟨#[114, 111, 117, 110, 100]⟩, .slice (some ⟨B, 0, none⟩) 1 c] w fun e w' => RefO w (wholeO rouV rouE a) e w' := by
    generalize wholeO rouV rouE a = r at *
    have HU := Lib.hid hU
    have HZ := Lib.hid hz
    have hNa := refNum_at a
    rw [hn] at hNa
    clear hn hU hz
    obtain ⟨a0, a1, a2, a3, a4, a5, a6, a7, a8, a9⟩ := ha
    simp only [Nat.zero_add] at *
    have hlt := World.block_lt_of_cell? w _ a0
    obtain ⟨ka, xa, ca, na, sa, ra, fa, la⟩ := a
    unfold Ob.vl at *
    simp only at *
    go_enter Tryd.func12, Tryd.ntmps12
    go_wp2_with fail
    refine (hNa _).mono ?_; rintro e w1 ⟨rfl, hb1⟩
    have p10 := rule hb1 (w.heap.size) (by simp <;> omega)
    have HB1 := Lib.hid (bthen (below1 _ _ ) hb1)
    have hz1 : w.heap.size < w1.heap.size := by have := hb1.size; simp at this; omega
    clear hb1
    go_wp2_with fail
    refine (HU.out _).mono ?_; rintro e w2 hro
    obtain rfl := hro.no HZ.out
    have HRO := Lib.hid (hro.after HB1.out)
    clear hro
    go_wp2_with fail
    go_ret2
    exact HRO.out
theorem ref_round {a : Ob} {B c : Nat} {w : World} (ha : At10 w B 0 a) : Calls Tryd.prog 12 #[.string ⟨#[114, 111, 117, 110, 100]⟩, .slice (some ⟨B, 0, none⟩) 1 c] w fun e w' => RefO w (wholeO rouV rouE a) e w' := by
  cases hn : isNumB a
  · exact ref_round_no ha hn
  · by_cases hz : (wholeO rouV rouE a).e = 0
    · exact ref_round_ok ha hn (fun W => un_round a hn W) hz
    · exact ref_round_er ha hn (fun W => un_round a hn W) hz
set_option maxHeartbeats 2000000 in
set_option maxRecDepth 100000 in
theorem un_floor_int (a : Ob) (hn : isNumB a = true) (hk : (a.kind == 1) = true) (w : World) : Calls Tryd.prog 23 #[.string ⟨#[102, 108, 111, 111, 114]⟩, a.vl] w fun e w' => RefO w (wholeO floV (fun _ => 0) a) e w' := by
    have hi : isIntB a = true := by rw [isInt_iff]; exact ⟨by simpa using hk, ((isNum_iff a).1 hn).2⟩
    have e0 : wholeO floV (fun _ => 0) a = okO 1 a.n := by unfold wholeO; rw [if_pos hi]
    rw [e0]
    clear e0 hi hn
    have hW := fun W => refWhole_at a.n W
    have hO := fun W => refOne_at 1 a.n W
    obtain ⟨ka, xa, ca, na, sa, ra, fa, la⟩ := a
    unfold mk Ob.vl at *
    simp only at *
    go_enter Tryd.func23, Tryd.ntmps23
    go_wp2_with fail
    refine (hW _).mono ?_; rintro e w1 ⟨rfl, hb1⟩
    have HB1 := Lib.hid (bthen (below1 _ _) hb1)
    clear hb1
    go_wp2_with fail
    refine (hO _).mono ?_; rintro e w2 ⟨bq, hbq, rfl, hro⟩
    have HRO := Lib.hid (hro.after HB1.out)
    clear hro
    go_wp2_with fail
    go_ret2
    exact HRO.out
set_option maxHeartbeats 2000000 in
set_option maxRecDepth 100000 in
theorem un_floor_real (a : Ob) (hn : isNumB a = true) (hk : (a.kind == 1) = false) (w : World) : Calls Tryd.prog 23 #[.string ⟨#[102, 108, 111, 111, 114]⟩, a.vl] w fun e w' => RefO w (wholeO floV (fun _ => 0) a) e w' := by
    have hk2 : ¬ a.kind = 1 := by simpa using hk
    have hni : isIntB a = false := by
      cases h : isIntB a
      · rfl
      · exact absurd ((isInt_iff a).1 h).1 hk2
    have ea : asE a = 0 := by unfold asE; rw [if_pos hn, if_neg hk2]
    have va : asV a = a.n := by unfold asV; rw [if_pos hn, if_neg hk2]
    have hf : fits a.n = true := (fits_iff a.n).2 ((isNum_iff a).1 hn).2
    have e0 : wholeO floV (fun _ => 0) a = okO 2 (floV a.n) := by unfold wholeO realO; rw [hni, if_neg (by simp), if_pos ea, va]; rfl
    rw [e0]
    clear e0 ea va hni hk2 hn hf
    have HV := Lib.hid (fun W => refFloor_any a.n W)
    generalize floV a.n = v at *
    have hW := fun W => refReal_at v W
    have hO := fun W => refOne_at 2 v W
    obtain ⟨ka, xa, ca, na, sa, ra, fa, la⟩ := a
    unfold mk Ob.vl at *
    simp only at *
    go_enter Tryd.func23, Tryd.ntmps23
    go_wp2_with fail
    refine (HV.out _).mono ?_; rintro e w1 ⟨rfl, rfl⟩
    go_wp2_with fail
    refine (hW _).mono ?_; rintro e w1 ⟨rfl, hb1⟩
    have HB1 := Lib.hid (bthen (below1 _ _) hb1)
    clear hb1
    go_wp2_with fail
    refine (hO _).mono ?_; rintro e w2 ⟨bq, hbq, rfl, hro⟩
    have HRO := Lib.hid (hro.after HB1.out)
    clear hro
    go_wp2_with fail
    go_ret2
    exact HRO.out
theorem un_floor (a : Ob) (hn : isNumB a = true) (w : World) : Calls Tryd.prog 23 #[.string ⟨#[102, 108, 111, 111, 114]⟩, a.vl] w fun e w' => RefO w (wholeO floV (fun _ => 0) a) e w' := by
  cases hk : (a.kind == 1)
  · exact un_floor_real a hn hk w
  · exact un_floor_int a hn hk w
set_option maxHeartbeats 2000000 in
set_option maxRecDepth 100000 in
theorem ref_floor_no {a : Ob} {B c : Nat} {w : World} (ha : At10 w B 0 a) (hn : isNumB a = false) : Calls Tryd.prog 12 #[.string ⟨#[102, 108, 111, 111, 114]⟩, .slice (some ⟨B, 0, none⟩) 1 c] w fun e w' => RefO w (wholeO floV (fun _ => 0) a) e w' := by
    have e0 : wholeO floV (fun _ => 0) a = noO 16 := by unfold wholeO realO; rw [if_neg (fun h => by rw [isInt_num h] at hn; cases hn)]; unfold asE; rw [hn]; first | rfl | simp
    rw [e0]
    clear e0
    have hNa := refNum_at a
    rw [hn] at hNa
    clear hn
    obtain ⟨a0, a1, a2, a3, a4, a5, a6, a7, a8, a9⟩ := ha
    simp only [Nat.zero_add] at *
    have hlt := World.block_lt_of_cell? w _ a0
    obtain ⟨ka, xa, ca, na, sa, ra, fa, la⟩ := a
    unfold Ob.vl at *
    simp only at *
    go_enter Tryd.func12, Tryd.ntmps12
    go_wp2_with fail
    refine (hNa _).mono ?_; rintro e w1 ⟨rfl, hb1⟩
    have p10 := rule hb1 (w.heap.size) (by simp <;> omega)
    have HB1 := Lib.hid (bthen (below1 _ _ ) hb1)
    have hz1 : w.heap.size < w1.heap.size := by have := hb1.size; simp at this; omega
    clear hb1
    go_wp2_with fail
    go_ret2
    exact RefO.err (by decide) HB1.out
set_option maxHeartbeats 2000000 in
set_option maxRecDepth 100000 in
theorem ref_floor_ok {a : Ob} {B c : Nat} {w : World} (ha : At10 w B 0 a) (hn : isNumB a = true) (hU : ∀ W, Calls Tryd.prog 23 #[.string ⟨#[102, 108, 111, 111, 114]⟩, a.vl] W fun e w' => RefO W (wholeO floV (fun _ => 0) a) e w') (hz : (wholeO floV (fun _ => 0) a).e = 0) : Calls Tryd.prog 12 #[.string ⟨#[102, 108, 111, 111, 114]⟩, .slice (some ⟨B, 0, none⟩) 1 c] w fun e w' => RefO w (wholeO floV (fun _ => 0) a) e w' := by
    generalize wholeO floV (fun _ => 0) a = r at *
    have HU := Lib.hid hU
    have HZ := Lib.hid hz
    have hNa := refNum_at a
    rw [hn] at hNa
    clear hn hU hz
    obtain ⟨a0, a1, a2, a3, a4, a5, a6, a7, a8, a9⟩ := ha
    simp only [Nat.zero_add] at *
    have hlt := World.block_lt_of_cell? w _ a0
    obtain ⟨ka, xa, ca, na, sa, ra, fa, la⟩ := a
    unfold Ob.vl at *
    simp only at *
    go_enter Tryd.func12, Tryd.ntmps12
    go_wp2_with fail
    refine (hNa _).mono ?_; rintro e w1 ⟨rfl, hb1⟩
    have p10 := rule hb1 (w.heap.size) (by simp <;> omega)
    have HB1 := Lib.hid (bthen (below1 _ _ ) hb1)
    have hz1 : w.heap.size < w1.heap.size := by have := hb1.size; simp at this; omega
    clear hb1
    go_wp2_with fail
    refine (HU.out _).mono ?_; rintro e w2 hro
    obtain ⟨bq, hbq, rfl, hcs⟩ := hro.ok HZ.out
    have HRO := Lib.hid (hro.after HB1.out)
    clear hro hcs hbq
    go_wp2_with fail
    go_ret2
    exact HRO.out
set_option maxHeartbeats 2000000 in
set_option maxRecDepth 100000 in
theorem ref_floor_er {a : Ob} {B c : Nat} {w : World} (ha : At10 w B 0 a) (hn : isNumB a = true) (hU : ∀ W, Calls Tryd.prog 23 #[.string ⟨#[102, 108, 111, 111, 114]⟩, a.vl] W fun e w' => RefO W (wholeO floV (fun _ => 0) a) e w') (hz : (wholeO floV (fun _ => 0) a).e ≠ 0) : Calls Tryd.prog 12 #[.string ⟨#[102, 108, 111, 111, 114]⟩, .slice (some ⟨B, 0, none⟩) 1 c] w fun e w' => RefO w (wholeO floV (fun _ => 0) a) e w' := by
    generalize wholeO floV (fun _ => 0) a = r at *
    have HU := Lib.hid hU
    have HZ := Lib.hid hz
    have hNa := refNum_at a
    rw [hn] at hNa
    clear hn hU hz
    obtain ⟨a0, a1, a2, a3, a4, a5, a6, a7, a8, a9⟩ := ha
    simp only [Nat.zero_add] at *
    have hlt := World.block_lt_of_cell? w _ a0
    obtain ⟨ka, xa, ca, na, sa, ra, fa, la⟩ := a
    unfold Ob.vl at *
    simp only at *
    go_enter Tryd.func12, Tryd.ntmps12
    go_wp2_with fail
    refine (hNa _).mono ?_; rintro e w1 ⟨rfl, hb1⟩
    have p10 := rule hb1 (w.heap.size) (by simp <;> omega)
    have HB1 := Lib.hid (bthen (below1 _ _ ) hb1)
    have hz1 : w.heap.size < w1.heap.size := by have := hb1.size; simp at this; omega
    clear hb1
    go_wp2_with fail
    refine (HU.out _).mono ?_; rintro e w2 hro
    obtain rfl := hro.no HZ.out
    have HRO := Lib.hid (hro.after HB1.out)
    clear hro
    go_wp2_with fail
    go_ret2
    exact HRO.out
theorem ref_floor {a : Ob} {B c : Nat} {w : World} (ha : At10 w B 0 a) : Calls Tryd.prog 12 #[.string ⟨#[102, 108, 111, 111, 114]⟩, .slice (some ⟨B, 0, none⟩) 1 c] w fun e w' => RefO w (wholeO floV (fun _ => 0) a) e w' := by
  cases hn : isNumB a
  · exact ref_floor_no ha hn
  · by_cases hz : (wholeO floV (fun _ => 0) a).e = 0
    · exact ref_floor_ok ha hn (fun W => un_floor a hn W) hz
    · exact ref_floor_er ha hn (fun W => un_floor a hn W) hz
set_option maxHeartbeats 2000000 in
set_option maxRecDepth 100000 in
theorem un_truncate_int (a : Ob) (hn : isNumB a = true) (hk : (a.kind == 1) = true) (w : World) : Calls Tryd.prog 23 #[.string ⟨#[116, 114, 117, 110, 99, 97, 116, 101]⟩, a.vl] w fun e w' => RefO w (wholeO truV (fun _ => 0) a) e w' := by
    have hi : isIntB a = true := by rw [isInt_iff]; exact ⟨by simpa using hk, ((isNum_iff a).1 hn).2⟩
    have e0 : wholeO truV (fun _ => 0) a = okO 1 a.n := by unfold wholeO; rw [if_pos hi]
    rw [e0]
    clear e0 hi hn
    have hW := fun W => refWhole_at a.n W
    have hO := fun W => refOne_at 1 a.n W
    obtain ⟨ka, xa, ca, na, sa, ra, fa, la⟩ := a
    unfold mk Ob.vl at *
    simp only at *
    go_enter Tryd.func23, Tryd.ntmps23
    go_wp2_with fail
    refine (hW _).mono ?_; rintro e w1 ⟨rfl, hb1⟩
    have HB1 := Lib.hid (bthen (below1 _ _) hb1)
    clear hb1
    go_wp2_with fail
    refine (hO _).mono ?_; rintro e w2 ⟨bq, hbq, rfl, hro⟩
    have HRO := Lib.hid (hro.after HB1.out)
    clear hro
    go_wp2_with fail
    go_ret2
    exact HRO.out
set_option maxHeartbeats 2000000 in
set_option maxRecDepth 100000 in
theorem un_truncate_real (a : Ob) (hn : isNumB a = true) (hk : (a.kind == 1) = false) (w : World) : Calls Tryd.prog 23 #[.string ⟨#[116, 114, 117, 110, 99, 97, 116, 101]⟩, a.vl] w fun e w' => RefO w (wholeO truV (fun _ => 0) a) e w' := by
    have hk2 : ¬ a.kind = 1 := by simpa using hk
    have hni : isIntB a = false := by
      cases h : isIntB a
      · rfl
      · exact absurd ((isInt_iff a).1 h).1 hk2
    have ea : asE a = 0 := by unfold asE; rw [if_pos hn, if_neg hk2]
    have va : asV a = a.n := by unfold asV; rw [if_pos hn, if_neg hk2]
    have hf : fits a.n = true := (fits_iff a.n).2 ((isNum_iff a).1 hn).2
    have e0 : wholeO truV (fun _ => 0) a = okO 2 (truV a.n) := by unfold wholeO realO; rw [hni, if_neg (by simp), if_pos ea, va]; rfl
    rw [e0]
    clear e0 ea va hni hk2 hn hf
    have HV := Lib.hid (fun W => refTruncate_any a.n W)
    generalize truV a.n = v at *
    have hW := fun W => refReal_at v W
    have hO := fun W => refOne_at 2 v W
    obtain ⟨ka, xa, ca, na, sa, ra, fa, la⟩ := a
    unfold mk Ob.vl at *
    simp only at *
    go_enter Tryd.func23, Tryd.ntmps23
    go_wp2_with fail
    refine (HV.out _).mono ?_; rintro e w1 ⟨rfl, rfl⟩
    go_wp2_with fail
    refine (hW _).mono ?_; rintro e w1 ⟨rfl, hb1⟩
    have HB1 := Lib.hid (bthen (below1 _ _) hb1)
    clear hb1
    go_wp2_with fail
    refine (hO _).mono ?_; rintro e w2 ⟨bq, hbq, rfl, hro⟩
    have HRO := Lib.hid (hro.after HB1.out)
    clear hro
    go_wp2_with fail
    go_ret2
    exact HRO.out
theorem un_truncate (a : Ob) (hn : isNumB a = true) (w : World) : Calls Tryd.prog 23 #[.string ⟨#[116, 114, 117, 110, 99, 97, 116, 101]⟩, a.vl] w fun e w' => RefO w (wholeO truV (fun _ => 0) a) e w' := by
  cases hk : (a.kind == 1)
  · exact un_truncate_real a hn hk w
  · exact un_truncate_int a hn hk w
set_option maxHeartbeats 2000000 in
set_option maxRecDepth 100000 in
theorem ref_truncate_no {a : Ob} {B c : Nat} {w : World} (ha : At10 w B 0 a) (hn : isNumB a = false) : Calls Tryd.prog 12 #[.string ⟨#[116, 114, 117, 110, 99, 97, 116, 101]⟩, .slice (some ⟨B, 0, none⟩) 1 c] w fun e w' => RefO w (wholeO truV (fun _ => 0) a) e w' := by
    have e0 : wholeO truV (fun _ => 0) a = noO 16 := by unfold wholeO realO; rw [if_neg (fun h => by rw [isInt_num h] at hn; cases hn)]; unfold asE; rw [hn]; first | rfl | simp
    rw [e0]
    clear e0
    have hNa := refNum_at a
    rw [hn] at hNa
    clear hn
    obtain ⟨a0, a1, a2, a3, a4, a5, a6, a7, a8, a9⟩ := ha
    simp only [Nat.zero_add] at *
    have hlt := World.block_lt_of_cell? w _ a0
    obtain ⟨ka, xa, ca, na, sa, ra, fa, la⟩ := a
    unfold Ob.vl at *
    simp only at *
    go_enter Tryd.func12, Tryd.ntmps12
    go_wp2_with fail
    refine (hNa _).mono ?_; rintro e w1 ⟨rfl, hb1⟩
    have p10 := rule hb1 (w.heap.size) (by simp <;> omega)
    have HB1 := Lib.hid (bthen (below1 _ _ ) hb1)
    have hz1 : w.heap.size < w1.heap.size := by have := hb1.size; simp at this; omega
    clear hb1
    go_wp2_with fail
    go_ret2
    exact RefO.err (by decide) HB1.out
set_option maxHeartbeats 2000000 in
set_option maxRecDepth 100000 in
theorem ref_truncate_ok {a : Ob} {B c : Nat} {w : World} (ha : At10 w B 0 a) (hn : isNumB a = true) (hU : ∀ W, Calls Tryd.prog 23 #[.string ⟨#[116, 114, 117, 110, 99, 97, 116, 101]⟩, a.vl] W fun e w' => RefO W (wholeO truV (fun _ => 0) a) e w') (hz : (wholeO truV (fun _ => 0) a).e = 0) : Calls Tryd.prog 12 #[.string ⟨#[116, 114, 117, 110, 99, 97, 116, 101]⟩, .slice (some ⟨B, 0, none⟩) 1 c] w fun e w' => RefO w (wholeO truV (fun _ => 0) a) e w' := by
    generalize wholeO truV (fun _ => 0) a = r at *
    have HU := Lib.hid hU
    have HZ := Lib.hid hz
    have hNa := refNum_at a
    rw [hn] at hNa
    clear hn hU hz
    obtain ⟨a0, a1, a2, a3, a4, a5, a6, a7, a8, a9⟩ := ha
    simp only [Nat.zero_add] at *
    have hlt := World.block_lt_of_cell? w _ a0
    obtain ⟨ka, xa, ca, na, sa, ra, fa, la⟩ := a
    unfold Ob.vl at *
    simp only at *
    go_enter Tryd.func12, Tryd.ntmps12
    go_wp2_with fail
    refine (hNa _).mono ?_; rintro e w1 ⟨rfl, hb1⟩
    have p10 := rule hb1 (w.heap.size) (by simp <;> omega)
    have HB1 := Lib.hid (bthen (below1 _ _ ) hb1)
    have hz1 : w.heap.size < w1.heap.size := by have := hb1.size; simp at this; omega
    clear hb1
    go_wp2_with fail
    refine (HU.out _).mono ?_; rintro e w2 hro
    obtain ⟨bq, hbq, rfl, hcs⟩ := hro.ok HZ.out
    have HRO := Lib.hid (hro.after HB1.out)
    clear hro hcs hbq
    go_wp2_with fail
    go_ret2
    exact HRO.out
set_option maxHeartbeats 2000000 in
set_option maxRecDepth 100000 in
theorem ref_truncate_er {a : Ob} {B c : Nat} {w : World} (ha : At10 w B 0 a) (hn : isNumB a = true) (hU : ∀ W, Calls Tryd.prog 23 #[.string ⟨#[116, 114, 117, 110, 99, 97, 116, 101]⟩, a.vl] W fun e w' => RefO W (wholeO truV (fun _ => 0) a) e w') (hz : (wholeO truV (fun _ => 0) a).e ≠ 0) : Calls Tryd.prog 12 #[.string ⟨#[116, 114, 117, 110, 99, 97, 116, 101]⟩, .slice (some ⟨B, 0, none⟩) 1 c] w fun e w' => RefO w (wholeO truV (fun _ => 0) a) e w' := by
    generalize wholeO truV (fun _ => 0) a = r at *
    have HU := Lib.hid hU
    have HZ := Lib.hid hz
    have hNa := refNum_at a
    rw [hn] at hNa
    clear hn hU hz
    obtain ⟨a0, a1, a2, a3, a4, a5, a6, a7, a8, a9⟩ := ha
    simp only [Nat.zero_add] at *
    have hlt := World.block_lt_of_cell? w _ a0
    obtain ⟨ka, xa, ca, na, sa, ra, fa, la⟩ := a
    unfold Ob.vl at *
    simp only at *
    go_enter Tryd.func12, Tryd.ntmps12
    go_wp2_with fail
    refine (hNa _).mono ?_; rintro e w1 ⟨rfl, hb1⟩
    have p10 := rule hb1 (w.heap.size) (by simp <;> omega)
    have HB1 := Lib.hid (bthen (below1 _ _ ) hb1)
    have hz1 : w.heap.size < w1.heap.size := by have := hb1.size; simp at this; omega
    clear hb1
    go_wp2_with fail
    refine (HU.out _).mono ?_; rintro e w2 hro
    obtain rfl := hro.no HZ.out
    have HRO := Lib.hid (hro.after HB1.out)
    clear hro
    go_wp2_with fail
    go_ret2
    exact HRO.out
theorem ref_truncate {a : Ob} {B c : Nat} {w : World} (ha : At10 w B 0 a) : Calls Tryd.prog 12 #[.string ⟨#[116, 114, 117, 110, 99, 97, 116, 101]⟩, .slice (some ⟨B, 0, none⟩) 1 c] w fun e w' => RefO w (wholeO truV (fun _ => 0) a) e w' := by
  cases hn : isNumB a
  · exact ref_truncate_no ha hn
  · by_cases hz : (wholeO truV (fun _ => 0) a).e = 0
    · exact ref_truncate_ok ha hn (fun W => un_truncate a hn W) hz
    · exact ref_truncate_er ha hn (fun W => un_truncate a hn W) hz
end Ari
end Go.Proofs.YtgbpldfcahajeaaDoor
