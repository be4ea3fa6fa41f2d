/-
  The document's own Arith: neg, abs (made by genref.py).
  The document's own Arith: ceiling, floor, round, truncate (made by genref.py).
  The document's own Arith: sqrt, sin, cos (made by genref.py).
  The document's own Arith: not (made by genref.py).
-/
import Derived.Test.YtgbpldfcahajeaaDoorAriRf
import Derived.Test.YtgbpldfcahajeaaDoorAriUnw
import Derived.Deep.RegionWith
import Derived.Test.YtgbpldfcahajeaaDoorAriBits
namespace Go.Proofs.YtgbpldfcahajeaaDoor
open Go.RowKit
open Fx
namespace Ari
theorem neg_int {a : Ob} (hi : isIntB a = true) (hf : fits (-a.n) = true) : negO a = okO 1 (-a.n) := by
  unfold negO numO
  dsimp only
  have e : (mk 1 0).n - a.n = -a.n := by show (0 : Int) - a.n = -a.n; omega
  rw [if_pos ⟨by rw [hi]; decide, by rw [e]; exact hf⟩, e]
theorem neg_real {a : Ob} (hn : isNumB a = true) (h : ¬ (isIntB a = true ∧ fits (-a.n) = true)) : negO a = if asE a = 0 then madeO 2 (subV 0 (asV a)) (subE 0 (asV a)) else noO (asE a) := by
  unfold negO numO
  dsimp only
  have e : (mk 1 0).n - a.n = -a.n := by show (0 : Int) - a.n = -a.n; omega
  rw [if_neg (fun hh => h ⟨by have := hh.1; rw [Bool.and_eq_true] at this; exact this.2, by have := hh.2; rw [e] at this; exact this⟩)]
  unfold realsO
  have e1 : asE (mk 1 0) = 0 := by decide
  have e2 : asV (mk 1 0) = 0 := by decide
  rw [if_pos (by rw [hn]; decide), e1, if_pos rfl, e2]
theorem neg_none {a : Ob} (hn : isNumB a = false) : negO a = noO 16 := by
  unfold negO numO
  have hi : isIntB a = false := by
    cases h : isIntB a
    · rfl
    · rw [isInt_num h] at hn; cases hn
  rw [hi, if_neg (by simp)]
  unfold realsO
  rw [hn, if_neg (by simp)]
set_option maxHeartbeats 2000000 in
set_option maxRecDepth 100000 in
theorem un_neg_int (a : Ob) (hn : isNumB a = true) (hk : (a.kind == 1) = true) (hf : fits (-a.n) = true) (w : World) : Calls Tryd.prog 23 #[.string ⟨#[110, 101, 103]⟩, a.vl] w fun e w' => RefO w (negO a) e w' := by
    have hi : isIntB a = true := by rw [isInt_iff]; exact ⟨by simpa using hk, ((isNum_iff a).1 hn).2⟩
    rw [neg_int hi hf]
    obtain ⟨-, x1, x2⟩ := (isNum_iff a).1 hn
    have hS := fun W => refSmall_at (-a.n) W
    rw [hf] at hS
    have HS := Lib.hid hS
    have hW := fun W => refWhole_at (-a.n) W
    have hO := fun W => refOne_at 1 (-a.n) W
    clear hi hn hf hS
    obtain ⟨ka, xa, ca, na, sa, ra, fa, la⟩ := a
    unfold mk Ob.vl at *
    simp only at *
    go_enter Tryd.func23, Tryd.ntmps23
    go_wp2_with fail
    refine (HS.out _).mono ?_; rintro e w1 ⟨rfl, rfl⟩
    go_wp2_with fail
    refine (hW _).mono ?_; rintro e w1 ⟨rfl, hb1⟩
    have HB1 := Lib.hid (bthen (below1 _ _) hb1)
    clear hb1
    go_wp2_with fail
    refine (hO _).mono ?_; rintro e w2 ⟨bq, hbq, rfl, hro⟩
    have HRO := Lib.hid (hro.after HB1.out)
    clear hro
    go_wp2_with fail
    go_ret2
    exact HRO.out
set_option maxHeartbeats 2000000 in
set_option maxRecDepth 100000 in
theorem un_neg_t (a : Ob) (hn : isNumB a = true) (hk : (a.kind == 1) = true) (hf : fits (-a.n) = false) (w : World) : Calls Tryd.prog 23 #[.string ⟨#[110, 101, 103]⟩, a.vl] w fun e w' => RefO w (negO a) e w' := by
    rw [neg_real hn (fun h => by rw [hf] at h; cases h.2)]
    obtain ⟨-, x1, x2⟩ := (isNum_iff a).1 hn
    have hX := fun W => refAs_at a W hn
    have hS := fun W => refSmall_at (-a.n) W
    rw [hf] at hS
    have HS := Lib.hid hS
    clear hf hS
    clear hn
    have HV := Lib.hid (fun W => refSub_any 0 (asV a) W)
    generalize asV a = x at *
    generalize asE a = ea at *
    generalize subV 0 x = v at *
    generalize subE 0 x = u at *
    by_cases ha0 : ea = 0
    · subst ha0
      rw [if_pos rfl]
      by_cases hu : u = 0
      · subst hu
        have eM : madeO 2 v 0 = okO 2 v := rfl
        rw [eM]
        clear eM
        have HG := Lib.hid (fun W => refGives_ok v W)
        obtain ⟨ka, xa, ca, na, sa, ra, fa, la⟩ := a
        unfold Ob.vl at *
        simp only at *
        go_enter Tryd.func23, Tryd.ntmps23
        go_wp2_with fail
        refine (HS.out _).mono ?_; rintro e w0 ⟨rfl, rfl⟩
        go_wp2_with fail
        refine (hX _).mono ?_; rintro e w3 ⟨rfl, hb3⟩
        have HB3 := Lib.hid (bthen (below1 _ _) hb3)
        clear hb3
        go_wp2_with fail
        refine (HV.out _).mono ?_; rintro e w4 ⟨rfl, rfl⟩
        go_wp2_with fail
        refine (HG.out _).mono ?_; rintro e w4 ⟨bq, hbq, rfl, hro⟩
        have HRO := Lib.hid (hro.after HB3.out)
        clear hro
        go_wp2_with fail
        go_ret2
        exact HRO.out
      · have eM : madeO 2 v u = noO u := by unfold madeO; rw [if_neg hu]
        rw [eM]
        clear eM
        have HG := Lib.hid (fun W => refGives_no v u hu W)
        obtain ⟨ka, xa, ca, na, sa, ra, fa, la⟩ := a
        unfold Ob.vl at *
        simp only at *
        go_enter Tryd.func23, Tryd.ntmps23
        go_wp2_with fail
        refine (HS.out _).mono ?_; rintro e w0 ⟨rfl, rfl⟩
        go_wp2_with fail
        refine (hX _).mono ?_; rintro e w3 ⟨rfl, hb3⟩
        have HB3 := Lib.hid (bthen (below1 _ _) hb3)
        clear hb3
        go_wp2_with fail
        refine (HV.out _).mono ?_; rintro e w4 ⟨rfl, rfl⟩
        go_wp2_with fail
        refine (HG.out _).mono ?_; rintro e w6 ⟨rfl, rfl⟩
        go_wp2_with fail
        go_ret2
        exact RefO.err hu HB3.out
    · rw [if_neg ha0]
      have ha0' : (ea == 0) = false := by simpa using ha0
      have HZ := Lib.hid ha0
      clear ha0
      obtain ⟨ka, xa, ca, na, sa, ra, fa, la⟩ := a
      unfold Ob.vl at *
      simp only at *
      go_enter Tryd.func23, Tryd.ntmps23
      go_wp2_with fail
      refine (HS.out _).mono ?_; rintro e w0 ⟨rfl, rfl⟩
      go_wp2_with fail
      refine (hX _).mono ?_; rintro e w3 ⟨rfl, hb3⟩
      have HB3 := Lib.hid (bthen (below1 _ _) hb3)
      clear hb3
      go_wp2_with fail
      go_ret2
      exact RefO.err HZ.out HB3.out
set_option maxHeartbeats 2000000 in
set_option maxRecDepth 100000 in
theorem un_neg_f (a : Ob) (hn : isNumB a = true) (hk : (a.kind == 1) = false) (w : World) : Calls Tryd.prog 23 #[.string ⟨#[110, 101, 103]⟩, a.vl] w fun e w' => RefO w (negO a) e w' := by
    rw [neg_real hn (fun h => by have := ((isInt_iff a).1 h.1).1; simp [this] at hk)]
    obtain ⟨-, x1, x2⟩ := (isNum_iff a).1 hn
    have hX := fun W => refAs_at a W hn
    clear hn
    have HV := Lib.hid (fun W => refSub_any 0 (asV a) W)
    generalize asV a = x at *
    generalize asE a = ea at *
    generalize subV 0 x = v at *
    generalize subE 0 x = u at *
    by_cases ha0 : ea = 0
    · subst ha0
      rw [if_pos rfl]
      by_cases hu : u = 0
      · subst hu
        have eM : madeO 2 v 0 = okO 2 v := rfl
        rw [eM]
        clear eM
        have HG := Lib.hid (fun W => refGives_ok v W)
        obtain ⟨ka, xa, ca, na, sa, ra, fa, la⟩ := a
        unfold Ob.vl at *
        simp only at *
        go_enter Tryd.func23, Tryd.ntmps23
        go_wp2_with fail
        refine (hX _).mono ?_; rintro e w3 ⟨rfl, hb3⟩
        have HB3 := Lib.hid (bthen (below1 _ _) hb3)
        clear hb3
        go_wp2_with fail
        refine (HV.out _).mono ?_; rintro e w4 ⟨rfl, rfl⟩
        go_wp2_with fail
        refine (HG.out _).mono ?_; rintro e w4 ⟨bq, hbq, rfl, hro⟩
        have HRO := Lib.hid (hro.after HB3.out)
        clear hro
        go_wp2_with fail
        go_ret2
        exact HRO.out
      · have eM : madeO 2 v u = noO u := by unfold madeO; rw [if_neg hu]
        rw [eM]
        clear eM
        have HG := Lib.hid (fun W => refGives_no v u hu W)
        obtain ⟨ka, xa, ca, na, sa, ra, fa, la⟩ := a
        unfold Ob.vl at *
        simp only at *
        go_enter Tryd.func23, Tryd.ntmps23
        go_wp2_with fail
        refine (hX _).mono ?_; rintro e w3 ⟨rfl, hb3⟩
        have HB3 := Lib.hid (bthen (below1 _ _) hb3)
        clear hb3
        go_wp2_with fail
        refine (HV.out _).mono ?_; rintro e w4 ⟨rfl, rfl⟩
        go_wp2_with fail
        refine (HG.out _).mono ?_; rintro e w6 ⟨rfl, rfl⟩
        go_wp2_with fail
        go_ret2
        exact RefO.err hu HB3.out
    · rw [if_neg ha0]
      have ha0' : (ea == 0) = false := by simpa using ha0
      have HZ := Lib.hid ha0
      clear ha0
      obtain ⟨ka, xa, ca, na, sa, ra, fa, la⟩ := a
      unfold Ob.vl at *
      simp only at *
      go_enter Tryd.func23, Tryd.ntmps23
      go_wp2_with fail
      refine (hX _).mono ?_; rintro e w3 ⟨rfl, hb3⟩
      have HB3 := Lib.hid (bthen (below1 _ _) hb3)
      clear hb3
      go_wp2_with fail
      go_ret2
      exact RefO.err HZ.out HB3.out
theorem un_neg (a : Ob) (hn : isNumB a = true) (w : World) : Calls Tryd.prog 23 #[.string ⟨#[110, 101, 103]⟩, a.vl] w fun e w' => RefO w (negO a) e w' := by
  cases hk : (a.kind == 1)
  · exact un_neg_f a hn hk w
  · cases hf : fits (-a.n)
    · exact un_neg_t a hn hk hf w
    · exact un_neg_int a hn hk hf w
set_option maxHeartbeats 2000000 in
set_option maxRecDepth 100000 in
theorem ref_neg_no {a : Ob} {B c : Nat} {w : World} (ha : At10 w B 0 a) (hn : isNumB a = false) : Calls Tryd.prog 12 #[.string ⟨#[110, 101, 103]⟩, .slice (some ⟨B, 0, none⟩) 1 c] w fun e w' => RefO w (negO a) e w' := by
    have e0 : negO a = noO 16 := by exact neg_none hn
    rw [e0]
    clear e0
    have hNa := refNum_at a
    rw [hn] at hNa
    clear hn
    obtain ⟨a0, a1, a2, a3, a4, a5, a6, a7, a8, a9⟩ := ha
    simp only [Nat.zero_add] at *
    have hlt := World.block_lt_of_cell? w _ a0
    obtain ⟨ka, xa, ca, na, sa, ra, fa, la⟩ := a
    unfold Ob.vl at *
    simp only at *
    go_enter Tryd.func12, Tryd.ntmps12
    go_wp2_with fail
    refine (hNa _).mono ?_; rintro e w1 ⟨rfl, hb1⟩
    have p10 := rule hb1 (w.heap.size) (by simp <;> omega)
    have HB1 := Lib.hid (bthen (below1 _ _ ) hb1)
    have hz1 : w.heap.size < w1.heap.size := by have := hb1.size; simp at this; omega
    clear hb1
    go_wp2_with fail
    go_ret2
    exact RefO.err (by decide) HB1.out
set_option maxHeartbeats 2000000 in
set_option maxRecDepth 100000 in
theorem ref_neg_ok {a : Ob} {B c : Nat} {w : World} (ha : At10 w B 0 a) (hn : isNumB a = true) (hU : ∀ W, Calls Tryd.prog 23 #[.string ⟨#[110, 101, 103]⟩, a.vl] W fun e w' => RefO W (negO a) e w') (hz : (negO a).e = 0) : Calls Tryd.prog 12 #[.string ⟨#[110, 101, 103]⟩, .slice (some ⟨B, 0, none⟩) 1 c] w fun e w' => RefO w (negO a) e w' := by
    generalize negO a = r at *
    have HU := Lib.hid hU
    have HZ := Lib.hid hz
    have hNa := refNum_at a
    rw [hn] at hNa
    clear hn hU hz
    obtain ⟨a0, a1, a2, a3, a4, a5, a6, a7, a8, a9⟩ := ha
    simp only [Nat.zero_add] at *
    have hlt := World.block_lt_of_cell? w _ a0
    obtain ⟨ka, xa, ca, na, sa, ra, fa, la⟩ := a
    unfold Ob.vl at *
    simp only at *
    go_enter Tryd.func12, Tryd.ntmps12
    go_wp2_with fail
    refine (hNa _).mono ?_; rintro e w1 ⟨rfl, hb1⟩
    have p10 := rule hb1 (w.heap.size) (by simp <;> omega)
    have HB1 := Lib.hid (bthen (below1 _ _ ) hb1)
    have hz1 : w.heap.size < w1.heap.size := by have := hb1.size; simp at this; omega
    clear hb1
    go_wp2_with fail
    refine (HU.out _).mono ?_; rintro e w2 hro
    obtain ⟨bq, hbq, rfl, hcs⟩ := hro.ok HZ.out
    have HRO := Lib.hid (hro.after HB1.out)
    clear hro hcs hbq
    go_wp2_with fail
    go_ret2
    exact HRO.out
set_option maxHeartbeats 2000000 in
set_option maxRecDepth 100000 in
theorem ref_neg_er {a : Ob} {B c : Nat} {w : World} (ha : At10 w B 0 a) (hn : isNumB a = true) (hU : ∀ W, Calls Tryd.prog 23 #[.string ⟨#[110, 101, 103]⟩, a.vl] W fun e w' => RefO W (negO a) e w') (hz : (negO a).e ≠ 0) : Calls Tryd.prog 12 #[.string ⟨#[110, 101, 103]⟩, .slice (some ⟨B, 0, none⟩) 1 c] w fun e w' => RefO w (negO a) e w' := by
    generalize negO a = r at *
    have HU := Lib.hid hU
    have HZ := Lib.hid hz
    have hNa := refNum_at a
    rw [hn] at hNa
    clear hn hU hz
    obtain ⟨a0, a1, a2, a3, a4, a5, a6, a7, a8, a9⟩ := ha
    simp only [Nat.zero_add] at *
    have hlt := World.block_lt_of_cell? w _ a0
    obtain ⟨ka, xa, ca, na, sa, ra, fa, la⟩ := a
    unfold Ob.vl at *
    simp only at *
    go_enter Tryd.func12, Tryd.ntmps12
    go_wp2_with fail
    refine (hNa _).mono ?_; rintro e w1 ⟨rfl, hb1⟩
    have p10 := rule hb1 (w.heap.size) (by simp <;> omega)
    have HB1 := Lib.hid (bthen (below1 _ _ ) hb1)
    have hz1 : w.heap.size < w1.heap.size := by have := hb1.size; simp at this; omega
    clear hb1
    go_wp2_with fail
    refine (HU.out _).mono ?_; rintro e w2 hro
    obtain rfl := hro.no HZ.out
    have HRO := Lib.hid (hro.after HB1.out)
    clear hro
    go_wp2_with fail
    go_ret2
    exact HRO.out
theorem ref_neg {a : Ob} {B c : Nat} {w : World} (ha : At10 w B 0 a) : Calls Tryd.prog 12 #[.string ⟨#[110, 101, 103]⟩, .slice (some ⟨B, 0, none⟩) 1 c] w fun e w' => RefO w (negO a) e w' := by
  cases hn : isNumB a
  · exact ref_neg_no ha hn
  · by_cases hz : (negO a).e = 0
    · exact ref_neg_ok ha hn (fun W => un_neg a hn W) hz
    · exact ref_neg_er ha hn (fun W => un_neg a hn W) hz
set_option maxHeartbeats 2000000 in
set_option maxRecDepth 100000 in
theorem un_abs_int (a : Ob) (hn : isNumB a = true) (hs : a.n < 0) (hk : (a.kind == 1) = true) (hf : fits (-a.n) = true) (w : World) : Calls Tryd.prog 23 #[.string ⟨#[97, 98, 115]⟩, a.vl] w fun e w' => RefO w (negO a) e w' := by
    have hi : isIntB a = true := by rw [isInt_iff]; exact ⟨by simpa using hk, ((isNum_iff a).1 hn).2⟩
    rw [neg_int hi hf]
    obtain ⟨-, x1, x2⟩ := (isNum_iff a).1 hn
    have hS := fun W => refSmall_at (-a.n) W
    rw [hf] at hS
    have HS := Lib.hid hS
    have hW := fun W => refWhole_at (-a.n) W
    have hO := fun W => refOne_at 1 (-a.n) W
    clear hi hn hf hS
    obtain ⟨ka, xa, ca, na, sa, ra, fa, la⟩ := a
    unfold mk Ob.vl at *
    simp only at *
    go_enter Tryd.func23, Tryd.ntmps23
    go_wp2_with fail
    refine (HS.out _).mono ?_; rintro e w1 ⟨rfl, rfl⟩
    go_wp2_with fail
    refine (hW _).mono ?_; rintro e w1 ⟨rfl, hb1⟩
    have HB1 := Lib.hid (bthen (below1 _ _) hb1)
    clear hb1
    go_wp2_with fail
    refine (hO _).mono ?_; rintro e w2 ⟨bq, hbq, rfl, hro⟩
    have HRO := Lib.hid (hro.after HB1.out)
    clear hro
    go_wp2_with fail
    go_ret2
    exact HRO.out
set_option maxHeartbeats 2000000 in
set_option maxRecDepth 100000 in
theorem un_abs_t (a : Ob) (hn : isNumB a = true) (hs : a.n < 0) (hk : (a.kind == 1) = true) (hf : fits (-a.n) = false) (w : World) : Calls Tryd.prog 23 #[.string ⟨#[97, 98, 115]⟩, a.vl] w fun e w' => RefO w (negO a) e w' := by
    rw [neg_real hn (fun h => by rw [hf] at h; cases h.2)]
    obtain ⟨-, x1, x2⟩ := (isNum_iff a).1 hn
    have hX := fun W => refAs_at a W hn
    have hS := fun W => refSmall_at (-a.n) W
    rw [hf] at hS
    have HS := Lib.hid hS
    clear hf hS
    clear hn
    have HV := Lib.hid (fun W => refSub_any 0 (asV a) W)
    generalize asV a = x at *
    generalize asE a = ea at *
    generalize subV 0 x = v at *
    generalize subE 0 x = u at *
    by_cases ha0 : ea = 0
    · subst ha0
      rw [if_pos rfl]
      by_cases hu : u = 0
      · subst hu
        have eM : madeO 2 v 0 = okO 2 v := rfl
        rw [eM]
        clear eM
        have HG := Lib.hid (fun W => refGives_ok v W)
        obtain ⟨ka, xa, ca, na, sa, ra, fa, la⟩ := a
        unfold Ob.vl at *
        simp only at *
        go_enter Tryd.func23, Tryd.ntmps23
        go_wp2_with fail
        refine (HS.out _).mono ?_; rintro e w0 ⟨rfl, rfl⟩
        go_wp2_with fail
        refine (hX _).mono ?_; rintro e w3 ⟨rfl, hb3⟩
        have HB3 := Lib.hid (bthen (below1 _ _) hb3)
        clear hb3
        go_wp2_with fail
        refine (HV.out _).mono ?_; rintro e w4 ⟨rfl, rfl⟩
        go_wp2_with fail
        refine (HG.out _).mono ?_; rintro e w4 ⟨bq, hbq, rfl, hro⟩
        have HRO := Lib.hid (hro.after HB3.out)
        clear hro
        go_wp2_with fail
        go_ret2
        exact HRO.out
      · have eM : madeO 2 v u = noO u := by unfold madeO; rw [if_neg hu]
        rw [eM]
        clear eM
        have HG := Lib.hid (fun W => refGives_no v u hu W)
        obtain ⟨ka, xa, ca, na, sa, ra, fa, la⟩ := a
        unfold Ob.vl at *
        simp only at *
        go_enter Tryd.func23, Tryd.ntmps23
        go_wp2_with fail
        refine (HS.out _).mono ?_; rintro e w0 ⟨rfl, rfl⟩
        go_wp2_with fail
        refine (hX _).mono ?_; rintro e w3 ⟨rfl, hb3⟩
        have HB3 := Lib.hid (bthen (below1 _ _) hb3)
        clear hb3
        go_wp2_with fail
        refine (HV.out _).mono ?_; rintro e w4 ⟨rfl, rfl⟩
        go_wp2_with fail
        refine (HG.out _).mono ?_; rintro e w6 ⟨rfl, rfl⟩
        go_wp2_with fail
        go_ret2
        exact RefO.err hu HB3.out
    · rw [if_neg ha0]
      have ha0' : (ea == 0) = false := by simpa using ha0
      have HZ := Lib.hid ha0
      clear ha0
      obtain ⟨ka, xa, ca, na, sa, ra, fa, la⟩ := a
      unfold Ob.vl at *
      simp only at *
      go_enter Tryd.func23, Tryd.ntmps23
      go_wp2_with fail
      refine (HS.out _).mono ?_; rintro e w0 ⟨rfl, rfl⟩
      go_wp2_with fail
      refine (hX _).mono ?_; rintro e w3 ⟨rfl, hb3⟩
      have HB3 := Lib.hid (bthen (below1 _ _) hb3)
      clear hb3
      go_wp2_with fail
      go_ret2
      exact RefO.err HZ.out HB3.out
set_option maxHeartbeats 2000000 in
set_option maxRecDepth 100000 in
theorem un_abs_f (a : Ob) (hn : isNumB a = true) (hs : a.n < 0) (hk : (a.kind == 1) = false) (w : World) : Calls Tryd.prog 23 #[.string ⟨#[97, 98, 115]⟩, a.vl] w fun e w' => RefO w (negO a) e w' := by
    rw [neg_real hn (fun h => by have := ((isInt_iff a).1 h.1).1; simp [this] at hk)]
    obtain ⟨-, x1, x2⟩ := (isNum_iff a).1 hn
    have hX := fun W => refAs_at a W hn
    clear hn
    have HV := Lib.hid (fun W => refSub_any 0 (asV a) W)
    generalize asV a = x at *
    generalize asE a = ea at *
    generalize subV 0 x = v at *
    generalize subE 0 x = u at *
    by_cases ha0 : ea = 0
    · subst ha0
      rw [if_pos rfl]
      by_cases hu : u = 0
      · subst hu
        have eM : madeO 2 v 0 = okO 2 v := rfl
        rw [eM]
        clear eM
        have HG := Lib.hid (fun W => refGives_ok v W)
        obtain ⟨ka, xa, ca, na, sa, ra, fa, la⟩ := a
        unfold Ob.vl at *
        simp only at *
        go_enter Tryd.func23, Tryd.ntmps23
        go_wp2_with fail
        refine (hX _).mono ?_; rintro e w3 ⟨rfl, hb3⟩
        have HB3 := Lib.hid (bthen (below1 _ _) hb3)
        clear hb3
        go_wp2_with fail
        refine (HV.out _).mono ?_; rintro e w4 ⟨rfl, rfl⟩
        go_wp2_with fail
        refine (HG.out _).mono ?_; rintro e w4 ⟨bq, hbq, rfl, hro⟩
        have HRO := Lib.hid (hro.after HB3.out)
        clear hro
        go_wp2_with fail
        go_ret2
        exact HRO.out
      · have eM : madeO 2 v u = noO u := by unfold madeO; rw [if_neg hu]
        rw [eM]
        clear eM
        have HG := Lib.hid (fun W => refGives_no v u hu W)
        obtain ⟨ka, xa, ca, na, sa, ra, fa, la⟩ := a
        unfold Ob.vl at *
        simp only at *
        go_enter Tryd.func23, Tryd.ntmps23
        go_wp2_with fail
        refine (hX _).mono ?_; rintro e w3 ⟨rfl, hb3⟩
        have HB3 := Lib.hid (bthen (below1 _ _) hb3)
        clear hb3
        go_wp2_with fail
        refine (HV.out _).mono ?_; rintro e w4 ⟨rfl, rfl⟩
        go_wp2_with fail
        refine (HG.out _).mono ?_; rintro e w6 ⟨rfl, rfl⟩
        go_wp2_with fail
        go_ret2
        exact RefO.err hu HB3.out
    · rw [if_neg ha0]
      have ha0' : (ea == 0) = false := by simpa using ha0
      have HZ := Lib.hid ha0
      clear ha0
      obtain ⟨ka, xa, ca, na, sa, ra, fa, la⟩ := a
      unfold Ob.vl at *
      simp only at *
      go_enter Tryd.func23, Tryd.ntmps23
      go_wp2_with fail
      refine (hX _).mono ?_; rintro e w3 ⟨rfl, hb3⟩
      have HB3 := Lib.hid (bthen (below1 _ _) hb3)
      clear hb3
      go_wp2_with fail
      go_ret2
      exact RefO.err HZ.out HB3.out
set_option maxHeartbeats 2000000 in
set_option maxRecDepth 100000 in
theorem un_abs_pos (a : Ob) (hs : 0 ≤ a.n) (w : World) : Calls Tryd.prog 23 #[.string ⟨#[97, 98, 115]⟩, a.vl] w fun e w' => RefO w (okO a.kind a.n) e w' := by
    have hO := fun W => refOne_at a.kind a.n W
    obtain ⟨ka, xa, ca, na, sa, ra, fa, la⟩ := a
    unfold mk Ob.vl at *
    simp only at *
    go_enter Tryd.func23, Tryd.ntmps23
    go_wp2_with fail
    have HB0 := Lib.hid (below1 w (.cells #[.int .i64 ka, .bool xa, .int .i64 ca, .int .i64 na, .string sa, .pointer none, .pointer none, .pointer none, .int .i64 0, .int .i64 0] 35))
    refine (hO _).mono ?_; rintro e w2 ⟨bq, hbq, rfl, hro⟩
    have HRO := Lib.hid (hro.after HB0.out)
    clear hro
    go_wp2_with fail
    go_ret2
    exact HRO.out
theorem un_abs (a : Ob) (hn : isNumB a = true) (w : World) : Calls Tryd.prog 23 #[.string ⟨#[97, 98, 115]⟩, a.vl] w fun e w' => RefO w (absO a) e w' := by
  unfold absO
  by_cases hs : 0 ≤ a.n
  · rw [if_pos ⟨hn, hs⟩]; exact un_abs_pos a hs w
  · rw [if_neg (fun h => hs h.2)]
    have hs : a.n < 0 := by omega
    cases hk : (a.kind == 1)
    · exact un_abs_f a hn hs hk w
    · cases hf : fits (-a.n)
      · exact un_abs_t a hn hs hk hf w
      · exact un_abs_int a hn hs hk hf w
set_option maxHeartbeats 2000000 in
set_option maxRecDepth 100000 in
theorem ref_abs_no {a : Ob} {B c : Nat} {w : World} (ha : At10 w B 0 a) (hn : isNumB a = false) : Calls Tryd.prog 12 #[.string ⟨#[97, 98, 115]⟩, .slice (some ⟨B, 0, none⟩) 1 c] w fun e w' => RefO w (absO a) e w' := by
    have e0 : absO a = noO 16 := by unfold absO; rw [if_neg (fun h => by rw [hn] at h; cases h.1)]; exact neg_none hn
    rw [e0]
    clear e0
    have hNa := refNum_at a
    rw [hn] at hNa
    clear hn
    obtain ⟨a0, a1, a2, a3, a4, a5, a6, a7, a8, a9⟩ := ha
    simp only [Nat.zero_add] at *
    have hlt := World.block_lt_of_cell? w _ a0
    obtain ⟨ka, xa, ca, na, sa, ra, fa, la⟩ := a
    unfold Ob.vl at *
    simp only at *
    go_enter Tryd.func12, Tryd.ntmps12
    go_wp2_with fail
    refine (hNa _).mono ?_; rintro e w1 ⟨rfl, hb1⟩
    have p10 := rule hb1 (w.heap.size) (by simp <;> omega)
    have HB1 := Lib.hid (bthen (below1 _ _ ) hb1)
    have hz1 : w.heap.size < w1.heap.size := by have := hb1.size; simp at this; omega
    clear hb1
    go_wp2_with fail
    go_ret2
    exact RefO.err (by decide) HB1.out
set_option maxHeartbeats 2000000 in
set_option maxRecDepth 100000 in
theorem ref_abs_ok {a : Ob} {B c : Nat} {w : World} (ha : At10 w B 0 a) (hn : isNumB a = true) (hU : ∀ W, Calls Tryd.prog 23 #[.string ⟨#[97, 98, 115]⟩, a.vl] W fun e w' => RefO W (absO a) e w') (hz : (absO a).e = 0) : Calls Tryd.prog 12 #[.string ⟨#[97, 98, 115]⟩, .slice (some ⟨B, 0, none⟩) 1 c] w fun e w' => RefO w (absO a) e w' := by
    generalize absO a = r at *
    have HU := Lib.hid hU
    have HZ := Lib.hid hz
    have hNa := refNum_at a
    rw [hn] at hNa
    clear hn hU hz
    obtain ⟨a0, a1, a2, a3, a4, a5, a6, a7, a8, a9⟩ := ha
    simp only [Nat.zero_add] at *
    have hlt := World.block_lt_of_cell? w _ a0
    obtain ⟨ka, xa, ca, na, sa, ra, fa, la⟩ := a
    unfold Ob.vl at *
    simp only at *
    go_enter Tryd.func12, Tryd.ntmps12
    go_wp2_with fail
    refine (hNa _).mono ?_; rintro e w1 ⟨rfl, hb1⟩
    have p10 := rule hb1 (w.heap.size) (by simp <;> omega)
    have HB1 := Lib.hid (bthen (below1 _ _ ) hb1)
    have hz1 : w.heap.size < w1.heap.size := by have := hb1.size; simp at this; omega
    clear hb1
    go_wp2_with fail
    refine (HU.out _).mono ?_; rintro e w2 hro
    obtain ⟨bq, hbq, rfl, hcs⟩ := hro.ok HZ.out
    have HRO := Lib.hid (hro.after HB1.out)
    clear hro hcs hbq
    go_wp2_with fail
    go_ret2
    exact HRO.out
set_option maxHeartbeats 2000000 in
set_option maxRecDepth 100000 in
theorem ref_abs_er {a : Ob} {B c : Nat} {w : World} (ha : At10 w B 0 a) (hn : isNumB a = true) (hU : ∀ W, Calls Tryd.prog 23 #[.string ⟨#[97, 98, 115]⟩, a.vl] W fun e w' => RefO W (absO a) e w') (hz : (absO a).e ≠ 0) : Calls Tryd.prog 12 #[.string ⟨#[97, 98, 115]⟩, .slice (some ⟨B, 0, none⟩) 1 c] w fun e w' => RefO w (absO a) e w' := by
    generalize absO a = r at *
    have HU := Lib.hid hU
    have HZ := Lib.hid hz
    have hNa := refNum_at a
    rw [hn] at hNa
    clear hn hU hz
    obtain ⟨a0, a1, a2, a3, a4, a5, a6, a7, a8, a9⟩ := ha
    simp only [Nat.zero_add] at *
    have hlt := World.block_lt_of_cell? w _ a0
    obtain ⟨ka, xa, ca, na, sa, ra, fa, la⟩ := a
    unfold Ob.vl at *
    simp only at *
    go_enter Tryd.func12, Tryd.ntmps12
    go_wp2_with fail
    refine (hNa _).mono ?_; rintro e w1 ⟨rfl, hb1⟩
    have p10 := rule hb1 (w.heap.size) (by simp <;> omega)
    have HB1 := Lib.hid (bthen (below1 _ _ ) hb1)
    have hz1 : w.heap.size < w1.heap.size := by have := hb1.size; simp at this; omega
    clear hb1
    go_wp2_with fail
    refine (HU.out _).mono ?_; rintro e w2 hro
    obtain rfl := hro.no HZ.out
    have HRO := Lib.hid (hro.after HB1.out)
    clear hro
    go_wp2_with fail
    go_ret2
    exact HRO.out
theorem ref_abs {a : Ob} {B c : Nat} {w : World} (ha : At10 w B 0 a) : Calls Tryd.prog 12 #[.string ⟨#[97, 98, 115]⟩, .slice (some ⟨B, 0, none⟩) 1 c] w fun e w' => RefO w (absO a) e w' := by
  cases hn : isNumB a
  · exact ref_abs_no ha hn
  · by_cases hz : (absO a).e = 0
    · exact ref_abs_ok ha hn (fun W => un_abs a hn W) hz
    · exact ref_abs_er ha hn (fun W => un_abs a hn W) hz
end Ari
end Go.Proofs.YtgbpldfcahajeaaDoor
namespace Go.Proofs.YtgbpldfcahajeaaDoor
open Go.RowKit
open Fx
namespace Ari
set_option maxHeartbeats 2000000 in
set_option maxRecDepth 100000 in
theorem un_ceiling_int (a : Ob) (hn : isNumB a = true) (hk : (a.kind == 1) = true) (w : World) : Calls Tryd.prog 23 #[.string ⟨#[99, 101, 105, 108, 105, 110, 103]⟩, a.vl] w fun e w' => RefO w (wholeO ceilV ceilE a) e w' := by
    have hi : isIntB a = true := by rw [isInt_iff]; exact ⟨by simpa using hk, ((isNum_iff a).1 hn).2⟩
    have e0 : wholeO ceilV ceilE a = okO 1 a.n := by unfold wholeO; rw [if_pos hi]
    rw [e0]
    clear e0 hi hn
    have hW := fun W => refWhole_at a.n W
    have hO := fun W => refOne_at 1 a.n W
    obtain ⟨ka, xa, ca, na, sa, ra, fa, la⟩ := a
    unfold mk Ob.vl at *
    simp only at *
    go_enter Tryd.func23, Tryd.ntmps23
    go_wp2_with fail
    refine (hW _).mono ?_; rintro e w1 ⟨rfl, hb1⟩
    have HB1 := Lib.hid (bthen (below1 _ _) hb1)
    clear hb1
    go_wp2_with fail
    refine (hO _).mono ?_; rintro e w2 ⟨bq, hbq, rfl, hro⟩
    have HRO := Lib.hid (hro.after HB1.out)
    clear hro
    go_wp2_with fail
    go_ret2
    exact HRO.out
set_option maxHeartbeats 2000000 in
set_option maxRecDepth 100000 in
theorem un_ceiling_realok (a : Ob) (hn : isNumB a = true) (hk : (a.kind == 1) = false) (hz : ceilE a.n = 0) (w : World) : Calls Tryd.prog 23 #[.string ⟨#[99, 101, 105, 108, 105, 110, 103]⟩, a.vl] w fun e w' => RefO w (wholeO ceilV ceilE a) e w' := by
    have hk2 : ¬ a.kind = 1 := by simpa using hk
    have hni : isIntB a = false := by
      cases h : isIntB a
      · rfl
      · exact absurd ((isInt_iff a).1 h).1 hk2
    have ea : asE a = 0 := by unfold asE; rw [if_pos hn, if_neg hk2]
    have va : asV a = a.n := by unfold asV; rw [if_pos hn, if_neg hk2]
    have hf : fits a.n = true := (fits_iff a.n).2 ((isNum_iff a).1 hn).2
    have e0 : wholeO ceilV ceilE a = okO 2 (ceilV a.n) := by unfold wholeO realO; rw [hni, if_neg (by simp), if_pos ea, va]; unfold madeO; rw [if_pos hz]
    rw [e0]
    clear e0 ea va hni hk2 hn hf
    have HV := Lib.hid (fun W => refCeiling_any a.n W)
    generalize ceilV a.n = v at *
    generalize ceilE a.n = u at *
    subst hz
    have HG := Lib.hid (fun W => refGives_ok v W)
    obtain ⟨ka, xa, ca, na, sa, ra, fa, la⟩ := a
    unfold Ob.vl
    simp only at *
    go_enter Tryd.func23, Tryd.ntmps23
    go_wp2_with fail
    refine (HV.out _).mono ?_; rintro e w1 ⟨rfl, rfl⟩
    go_wp2_with fail
    have HB1 := Lib.hid (below1 w (.cells #[.int .i64 ka, .bool xa, .int .i64 ca, .int .i64 na, .string sa, .pointer none, .pointer none, .pointer none, .int .i64 0, .int .i64 0] 35))
    refine (HG.out _).mono ?_; rintro e w2 ⟨bq, hbq, rfl, hro⟩
    have HRO := Lib.hid (hro.after HB1.out)
    clear hro
    go_wp2_with fail
    go_ret2
    exact HRO.out
set_option maxHeartbeats 2000000 in
set_option maxRecDepth 100000 in
theorem un_ceiling_realer (a : Ob) (hn : isNumB a = true) (hk : (a.kind == 1) = false) (hz : ceilE a.n ≠ 0) (w : World) : Calls Tryd.prog 23 #[.string ⟨#[99, 101, 105, 108, 105, 110, 103]⟩, a.vl] w fun e w' => RefO w (wholeO ceilV ceilE a) e w' := by
    have hk2 : ¬ a.kind = 1 := by simpa using hk
    have hni : isIntB a = false := by
      cases h : isIntB a
      · rfl
      · exact absurd ((isInt_iff a).1 h).1 hk2
    have ea : asE a = 0 := by unfold asE; rw [if_pos hn, if_neg hk2]
    have va : asV a = a.n := by unfold asV; rw [if_pos hn, if_neg hk2]
    have hf : fits a.n = true := (fits_iff a.n).2 ((isNum_iff a).1 hn).2
    have e0 : wholeO ceilV ceilE a = noO (ceilE a.n) := by unfold wholeO realO; rw [hni, if_neg (by simp), if_pos ea, va]; unfold madeO; rw [if_neg hz]
    rw [e0]
    clear e0 ea va hni hk2 hn hf
    have HV := Lib.hid (fun W => refCeiling_any a.n W)
    generalize ceilV a.n = v at *
    generalize ceilE a.n = u at *
    have HG := Lib.hid (fun W => refGives_no v u hz W)
    have HZ := Lib.hid hz
    clear hz
    obtain ⟨ka, xa, ca, na, sa, ra, fa, la⟩ := a
    unfold Ob.vl
    simp only at *
    go_enter Tryd.func23, Tryd.ntmps23
    go_wp2_with fail
    refine (HV.out _).mono ?_; rintro e w1 ⟨rfl, rfl⟩
    go_wp2_with fail
    have HB1 := Lib.hid (below1 w (.cells #[.int .i64 ka, .bool xa, .int .i64 ca, .int .i64 na, .string sa, .pointer none, .pointer none, .pointer none, .int .i64 0, .int .i64 0] 35))
    refine (HG.out _).mono ?_; rintro e w2 ⟨rfl, rfl⟩
    go_wp2_with fail
    go_ret2
    exact RefO.err HZ.out HB1.out
theorem un_ceiling (a : Ob) (hn : isNumB a = true) (w : World) : Calls Tryd.prog 23 #[.string ⟨#[99, 101, 105, 108, 105, 110, 103]⟩, a.vl] w fun e w' => RefO w (wholeO ceilV ceilE a) e w' := by
  cases hk : (a.kind == 1)
  · by_cases hz : ceilE a.n = 0
    · exact un_ceiling_realok a hn hk hz w
    · exact un_ceiling_realer a hn hk hz w
  · exact un_ceiling_int a hn hk w
set_option maxHeartbeats 2000000 in
set_option maxRecDepth 100000 in
theorem ref_ceiling_no {a : Ob} {B c : Nat} {w : World} (ha : At10 w B 0 a) (hn : isNumB a = false) : Calls Tryd.prog 12 #[.string ⟨#[99, 101, 105, 108, 105, 110, 103]⟩, .slice (some ⟨B, 0, none⟩) 1 c] w fun e w' => RefO w (wholeO ceilV ceilE a) e w' := by
    have e0 : wholeO ceilV ceilE a = noO 16 := by unfold wholeO realO; rw [if_neg (fun h => by rw [isInt_num h] at hn; cases hn)]; unfold asE; rw [hn]; first | rfl | simp
    rw [e0]
    clear e0
    have hNa := refNum_at a
    rw [hn] at hNa
    clear hn
    obtain ⟨a0, a1, a2, a3, a4, a5, a6, a7, a8, a9⟩ := ha
    simp only [Nat.zero_add] at *
    have hlt := World.block_lt_of_cell? w _ a0
    obtain ⟨ka, xa, ca, na, sa, ra, fa, la⟩ := a
    unfold Ob.vl at *
    simp only at *
    go_enter Tryd.func12, Tryd.ntmps12
    go_wp2_with fail
    refine (hNa _).mono ?_; rintro e w1 ⟨rfl, hb1⟩
    have p10 := rule hb1 (w.heap.size) (by simp <;> omega)
    have HB1 := Lib.hid (bthen (below1 _ _ ) hb1)
    have hz1 : w.heap.size < w1.heap.size := by have := hb1.size; simp at this; omega
    clear hb1
    go_wp2_with fail
    go_ret2
    exact RefO.err (by decide) HB1.out
set_option maxHeartbeats 2000000 in
set_option maxRecDepth 100000 in
theorem ref_ceiling_ok {a : Ob} {B c : Nat} {w : World} (ha : At10 w B 0 a) (hn : isNumB a = true) (hU : ∀ W, Calls Tryd.prog 23 #[.string ⟨#[99, 101, 105, 108, 105, 110, 103]⟩, a.vl] W fun e w' => RefO W (wholeO ceilV ceilE a) e w') (hz : (wholeO ceilV ceilE a).e = 0) : Calls Tryd.prog 12 #[.string ⟨#[99, 101, 105, 108, 105, 110, 103]⟩, .slice (some ⟨B, 0, none⟩) 1 c] w fun e w' => RefO w (wholeO ceilV ceilE a) e w' := by
    generalize wholeO ceilV ceilE a = r at *
    have HU := Lib.hid hU
    have HZ := Lib.hid hz
    have hNa := refNum_at a
    rw [hn] at hNa
    clear hn hU hz
    obtain ⟨a0, a1, a2, a3, a4, a5, a6, a7, a8, a9⟩ := ha
    simp only [Nat.zero_add] at *
    have hlt := World.block_lt_of_cell? w _ a0
    obtain ⟨ka, xa, ca, na, sa, ra, fa, la⟩ := a
    unfold Ob.vl at *
    simp only at *
    go_enter Tryd.func12, Tryd.ntmps12
    go_wp2_with fail
    refine (hNa _).mono ?_; rintro e w1 ⟨rfl, hb1⟩
    have p10 := rule hb1 (w.heap.size) (by simp <;> omega)
    have HB1 := Lib.hid (bthen (below1 _ _ ) hb1)
    have hz1 : w.heap.size < w1.heap.size := by have := hb1.size; simp at this; omega
    clear hb1
    go_wp2_with fail
    refine (HU.out _).mono ?_; rintro e w2 hro
    obtain ⟨bq, hbq, rfl, hcs⟩ := hro.ok HZ.out
    have HRO := Lib.hid (hro.after HB1.out)
    clear hro hcs hbq
    go_wp2_with fail
    go_ret2
    exact HRO.out
set_option maxHeartbeats 2000000 in
set_option maxRecDepth 100000 in
theorem ref_ceiling_er {a : Ob} {B c : Nat} {w : World} (ha : At10 w B 0 a) (hn : isNumB a = true) (hU : ∀ W, Calls Tryd.prog 23 #[.string ⟨#[99, 101, 105, 108, 105, 110, 103]⟩, a.vl] W fun e w' => RefO W (wholeO ceilV ceilE a) e w') (hz : (wholeO ceilV ceilE a).e ≠ 0) : Calls Tryd.prog 12 #[.string ⟨#[99, 101, 105, 108, 105, 110, 103]⟩, .slice (some ⟨B, 0, none⟩) 1 c] w fun e w' => RefO w (wholeO ceilV ceilE a) e w' := by
    generalize wholeO ceilV ceilE a = r at *
    have HU := Lib.hid hU
    have HZ := Lib.hid hz
    have hNa := refNum_at a
    rw [hn] at hNa
    clear hn hU hz
    obtain ⟨a0, a1, a2, a3, a4, a5, a6, a7, a8, a9⟩ := ha
    simp only [Nat.zero_add] at *
    have hlt := World.block_lt_of_cell? w _ a0
    obtain ⟨ka, xa, ca, na, sa, ra, fa, la⟩ := a
    unfold Ob.vl at *
    simp only at *
    go_enter Tryd.func12, Tryd.ntmps12
    go_wp2_with fail
    refine (hNa _).mono ?_; rintro e w1 ⟨rfl, hb1⟩
    have p10 := rule hb1 (w.heap.size) (by simp <;> omega)
    have HB1 := Lib.hid (bthen (below1 _ _ ) hb1)
    have hz1 : w.heap.size < w1.heap.size := by have := hb1.size; simp at this; omega
    clear hb1
    go_wp2_with fail
    refine (HU.out _).mono ?_; rintro e w2 hro
    obtain rfl := hro.no HZ.out
    have HRO := Lib.hid (hro.after HB1.out)
    clear hro
    go_wp2_with fail
    go_ret2
    exact HRO.out
theorem ref_ceiling {a : Ob} {B c : Nat} {w : World} (ha : At10 w B 0 a) : Calls Tryd.prog 12 #[.string ⟨#[99, 101, 105, 108, 105, 110, 103]⟩, .slice (some ⟨B, 0, none⟩) 1 c] w fun e w' => RefO w (wholeO ceilV ceilE a) e w' := by
  cases hn : isNumB a
  · exact ref_ceiling_no ha hn
  · by_cases hz : (wholeO ceilV ceilE a).e = 0
    · exact ref_ceiling_ok ha hn (fun W => un_ceiling a hn W) hz
    · exact ref_ceiling_er ha hn (fun W => un_ceiling a hn W) hz
set_option maxHeartbeats 2000000 in
set_option maxRecDepth 100000 in
theorem un_round_int (a : Ob) (hn : isNumB a = true) (hk : (a.kind == 1) = true) (w : World) : Calls Tryd.prog 23 #[.string ⟨#[114, 111, 117, 110, 100]⟩, a.vl] w fun e w' => RefO w (wholeO rouV rouE a) e w' := by
    have hi : isIntB a = true := by rw [isInt_iff]; exact ⟨by simpa using hk, ((isNum_iff a).1 hn).2⟩
    have e0 : wholeO rouV rouE a = okO 1 a.n := by unfold wholeO; rw [if_pos hi]
    rw [e0]
    clear e0 hi hn
    have hW := fun W => refWhole_at a.n W
    have hO := fun W => refOne_at 1 a.n W
    obtain ⟨ka, xa, ca, na, sa, ra, fa, la⟩ := a
    unfold mk Ob.vl at *
    simp only at *
    go_enter Tryd.func23, Tryd.ntmps23
    go_wp2_with fail
    refine (hW _).mono ?_; rintro e w1 ⟨rfl, hb1⟩
    have HB1 := Lib.hid (bthen (below1 _ _) hb1)
    clear hb1
    go_wp2_with fail
    refine (hO _).mono ?_; rintro e w2 ⟨bq, hbq, rfl, hro⟩
    have HRO := Lib.hid (hro.after HB1.out)
    clear hro
    go_wp2_with fail
    go_ret2
    exact HRO.out
set_option maxHeartbeats 2000000 in
set_option maxRecDepth 100000 in
theorem un_round_realok (a : Ob) (hn : isNumB a = true) (hk : (a.kind == 1) = false) (hz : rouE a.n = 0) (w : World) : Calls Tryd.prog 23 #[.string ⟨#[114, 111, 117, 110, 100]⟩, a.vl] w fun e w' => RefO w (wholeO rouV rouE a) e w' := by
    have hk2 : ¬ a.kind = 1 := by simpa using hk
    have hni : isIntB a = false := by
      cases h : isIntB a
      · rfl
      · exact absurd ((isInt_iff a).1 h).1 hk2
    have ea : asE a = 0 := by unfold asE; rw [if_pos hn, if_neg hk2]
    have va : asV a = a.n := by unfold asV; rw [if_pos hn, if_neg hk2]
    have hf : fits a.n = true := (fits_iff a.n).2 ((isNum_iff a).1 hn).2
    have e0 : wholeO rouV rouE a = okO 2 (rouV a.n) := by unfold wholeO realO; rw [hni, if_neg (by simp), if_pos ea, va]; unfold madeO; rw [if_pos hz]
    rw [e0]
    clear e0 ea va hni hk2 hn hf
    have HV := Lib.hid (fun W => refRound_any a.n W)
    generalize rouV a.n = v at *
    generalize rouE a.n = u at *
    subst hz
    have HG := Lib.hid (fun W => refGives_ok v W)
    obtain ⟨ka, xa, ca, na, sa, ra, fa, la⟩ := a
    unfold Ob.vl
    simp only at *
    go_enter Tryd.func23, Tryd.ntmps23
    go_wp2_with fail
    refine (HV.out _).mono ?_; rintro e w1 ⟨rfl, rfl⟩
    go_wp2_with fail
    have HB1 := Lib.hid (below1 w (.cells #[.int .i64 ka, .bool xa, .int .i64 ca, .int .i64 na, .string sa, .pointer none, .pointer none, .pointer none, .int .i64 0, .int .i64 0] 35))
    refine (HG.out _).mono ?_; rintro e w2 ⟨bq, hbq, rfl, hro⟩
    have HRO := Lib.hid (hro.after HB1.out)
    clear hro
    go_wp2_with fail
    go_ret2
    exact HRO.out
set_option maxHeartbeats 2000000 in
set_option maxRecDepth 100000 in
theorem un_round_realer (a : Ob) (hn : isNumB a = true) (hk : (a.kind == 1) = false) (hz : rouE a.n ≠ 0) (w : World) : Calls Tryd.prog 23 #[.string ⟨#[114, 111, 117, 110, 100]⟩, a.vl] w fun e w' => RefO w (wholeO rouV rouE a) e w' := by
    have hk2 : ¬ a.kind = 1 := by simpa using hk
    have hni : isIntB a = false := by
      cases h : isIntB a
      · rfl
      · exact absurd ((isInt_iff a).1 h).1 hk2
    have ea : asE a = 0 := by unfold asE; rw [if_pos hn, if_neg hk2]
    have va : asV a = a.n := by unfold asV; rw [if_pos hn, if_neg hk2]
    have hf : fits a.n = true := (fits_iff a.n).2 ((isNum_iff a).1 hn).2
    have e0 : wholeO rouV rouE a = noO (rouE a.n) := by unfold wholeO realO; rw [hni, if_neg (by simp), if_pos ea, va]; unfold madeO; rw [if_neg hz]
    rw [e0]
    clear e0 ea va hni hk2 hn hf
    have HV := Lib.hid (fun W => refRound_any a.n W)
    generalize rouV a.n = v at *
    generalize rouE a.n = u at *
    have HG := Lib.hid (fun W => refGives_no v u hz W)
    have HZ := Lib.hid hz
    clear hz
    obtain ⟨ka, xa, ca, na, sa, ra, fa, la⟩ := a
    unfold Ob.vl
    simp only at *
    go_enter Tryd.func23, Tryd.ntmps23
    go_wp2_with fail
    refine (HV.out _).mono ?_; rintro e w1 ⟨rfl, rfl⟩
    go_wp2_with fail
    have HB1 := Lib.hid (below1 w (.cells #[.int .i64 ka, .bool xa, .int .i64 ca, .int .i64 na, .string sa, .pointer none, .pointer none, .pointer none, .int .i64 0, .int .i64 0] 35))
    refine (HG.out _).mono ?_; rintro e w2 ⟨rfl, rfl⟩
    go_wp2_with fail
    go_ret2
    exact RefO.err HZ.out HB1.out
theorem un_round (a : Ob) (hn : isNumB a = true) (w : World) : Calls Tryd.prog 23 #[.string ⟨#[114, 111, 117, 110, 100]⟩, a.vl] w fun e w' => RefO w (wholeO rouV rouE a) e w' := by
  cases hk : (a.kind == 1)
  · by_cases hz : rouE a.n = 0
    · exact un_round_realok a hn hk hz w
    · exact un_round_realer a hn hk hz w
  · exact un_round_int a hn hk w
set_option maxHeartbeats 2000000 in
set_option maxRecDepth 100000 in
theorem ref_round_no {a : Ob} {B c : Nat} {w : World} (ha : At10 w B 0 a) (hn : isNumB a = false) : Calls Tryd.prog 12 #[.string ⟨#[114, 111, 117, 110, 100]⟩, .slice (some ⟨B, 0, none⟩) 1 c] w fun e w' => RefO w (wholeO rouV rouE a) e w' := by
    have e0 : wholeO rouV rouE a = noO 16 := by unfold wholeO realO; rw [if_neg (fun h => by rw [isInt_num h] at hn; cases hn)]; unfold asE; rw [hn]; first | rfl | simp
    rw [e0]
    clear e0
    have hNa := refNum_at a
    rw [hn] at hNa
    clear hn
    obtain ⟨a0, a1, a2, a3, a4, a5, a6, a7, a8, a9⟩ := ha
    simp only [Nat.zero_add] at *
    have hlt := World.block_lt_of_cell? w _ a0
    obtain ⟨ka, xa, ca, na, sa, ra, fa, la⟩ := a
    unfold Ob.vl at *
    simp only at *
    go_enter Tryd.func12, Tryd.ntmps12
    go_wp2_with fail
    refine (hNa _).mono ?_; rintro e w1 ⟨rfl, hb1⟩
    have p10 := rule hb1 (w.heap.size) (by simp <;> omega)
    have HB1 := Lib.hid (bthen (below1 _ _ ) hb1)
    have hz1 : w.heap.size < w1.heap.size := by have := hb1.size; simp at this; omega
    clear hb1
    go_wp2_with fail
    go_ret2
    exact RefO.err (by decide) HB1.out
set_option maxHeartbeats 2000000 in
set_option maxRecDepth 100000 in
theorem ref_round_ok {a : Ob} {B c : Nat} {w : World} (ha : At10 w B 0 a) (hn : isNumB a = true) (hU : ∀ W, Calls Tryd.prog 23 #[.string ⟨#[114, 111, 117, 110, 100]⟩, a.vl] W fun e w' => RefO W (wholeO rouV rouE a) e w') (hz : (wholeO rouV rouE a).e = 0) : Calls Tryd.prog 12 #[.string ⟨#[114, 111, 117, 110, 100]⟩, .slice (some ⟨B, 0, none⟩) 1 c] w fun e w' => RefO w (wholeO rouV rouE a) e w' := by
    generalize wholeO rouV rouE a = r at *
    have HU := Lib.hid hU
    have HZ := Lib.hid hz
    have hNa := refNum_at a
    rw [hn] at hNa
    clear hn hU hz
    obtain ⟨a0, a1, a2, a3, a4, a5, a6, a7, a8, a9⟩ := ha
    simp only [Nat.zero_add] at *
    have hlt := World.block_lt_of_cell? w _ a0
    obtain ⟨ka, xa, ca, na, sa, ra, fa, la⟩ := a
    unfold Ob.vl at *
    simp only at *
    go_enter Tryd.func12, Tryd.ntmps12
    go_wp2_with fail
    refine (hNa _).mono ?_; rintro e w1 ⟨rfl, hb1⟩
    have p10 := rule hb1 (w.heap.size) (by simp <;> omega)
    have HB1 := Lib.hid (bthen (below1 _ _ ) hb1)
    have hz1 : w.heap.size < w1.heap.size := by have := hb1.size; simp at this; omega
    clear hb1
    go_wp2_with fail
    refine (HU.out _).mono ?_; rintro e w2 hro
    obtain ⟨bq, hbq, rfl, hcs⟩ := hro.ok HZ.out
    have HRO := Lib.hid (hro.after HB1.out)
    clear hro hcs hbq
    go_wp2_with fail
    go_ret2
    exact HRO.out
set_option maxHeartbeats 2000000 in
set_option maxRecDepth 100000 in
theorem ref_round_er {a : Ob} {B c : Nat} {w : World} (ha : At10 w B 0 a) (hn : isNumB a = true) (hU : ∀ W, Calls Tryd.prog 23 #[.string ⟨#[114, 111, 117, 110, 100]⟩, a.vl] W fun e w' => RefO W (wholeO rouV rouE a) e w') (hz : (wholeO rouV rouE a).e ≠ 0) : Calls Tryd.prog 12 #[.string ⟨#[114, 111, 117, 110, 100]⟩, .slice (some ⟨B, 0, none⟩) 1 c] w fun e w' => RefO w (wholeO rouV rouE a) e w' := by
    generalize wholeO rouV rouE a = r at *
    have HU := Lib.hid hU
    have HZ := Lib.hid hz
    have hNa := refNum_at a
    rw [hn] at hNa
    clear hn hU hz
    obtain ⟨a0, a1, a2, a3, a4, a5, a6, a7, a8, a9⟩ := ha
    simp only [Nat.zero_add] at *
    have hlt := World.block_lt_of_cell? w _ a0
    obtain ⟨ka, xa, ca, na, sa, ra, fa, la⟩ := a
    unfold Ob.vl at *
    simp only at *
    go_enter Tryd.func12, Tryd.ntmps12
    go_wp2_with fail
    refine (hNa _).mono ?_; rintro e w1 ⟨rfl, hb1⟩
    have p10 := rule hb1 (w.heap.size) (by simp <;> omega)
    have HB1 := Lib.hid (bthen (below1 _ _ ) hb1)
    have hz1 : w.heap.size < w1.heap.size := by have := hb1.size; simp at this; omega
    clear hb1
    go_wp2_with fail
    refine (HU.out _).mono ?_; rintro e w2 hro
    obtain rfl := hro.no HZ.out
    have HRO := Lib.hid (hro.after HB1.out)
    clear hro
    go_wp2_with fail
    go_ret2
    exact HRO.out
theorem ref_round {a : Ob} {B c : Nat} {w : World} (ha : At10 w B 0 a) : Calls Tryd.prog 12 #[.string ⟨#[114, 111, 117, 110, 100]⟩, .slice (some ⟨B, 0, none⟩) 1 c] w fun e w' => RefO w (wholeO rouV rouE a) e w' := by
  cases hn : isNumB a
  · exact ref_round_no ha hn
  · by_cases hz : (wholeO rouV rouE a).e = 0
    · exact ref_round_ok ha hn (fun W => un_round a hn W) hz
    · exact ref_round_er ha hn (fun W => un_round a hn W) hz
set_option maxHeartbeats 2000000 in
set_option maxRecDepth 100000 in
theorem un_floor_int (a : Ob) (hn : isNumB a = true) (hk : (a.kind == 1) = true) (w : World) : Calls Tryd.prog 23 #[.string ⟨#[102, 108, 111, 111, 114]⟩, a.vl] w fun e w' => RefO w (wholeO floV (fun _ => 0) a) e w' := by
    have hi : isIntB a = true := by rw [isInt_iff]; exact ⟨by simpa using hk, ((isNum_iff a).1 hn).2⟩
    have e0 : wholeO floV (fun _ => 0) a = okO 1 a.n := by unfold wholeO; rw [if_pos hi]
    rw [e0]
    clear e0 hi hn
    have hW := fun W => refWhole_at a.n W
    have hO := fun W => refOne_at 1 a.n W
    obtain ⟨ka, xa, ca, na, sa, ra, fa, la⟩ := a
    unfold mk Ob.vl at *
    simp only at *
    go_enter Tryd.func23, Tryd.ntmps23
    go_wp2_with fail
    refine (hW _).mono ?_; rintro e w1 ⟨rfl, hb1⟩
    have HB1 := Lib.hid (bthen (below1 _ _) hb1)
    clear hb1
    go_wp2_with fail
    refine (hO _).mono ?_; rintro e w2 ⟨bq, hbq, rfl, hro⟩
    have HRO := Lib.hid (hro.after HB1.out)
    clear hro
    go_wp2_with fail
    go_ret2
    exact HRO.out
set_option maxHeartbeats 2000000 in
set_option maxRecDepth 100000 in
theorem un_floor_real (a : Ob) (hn : isNumB a = true) (hk : (a.kind == 1) = false) (w : World) : Calls Tryd.prog 23 #[.string ⟨#[102, 108, 111, 111, 114]⟩, a.vl] w fun e w' => RefO w (wholeO floV (fun _ => 0) a) e w' := by
    have hk2 : ¬ a.kind = 1 := by simpa using hk
    have hni : isIntB a = false := by
      cases h : isIntB a
      · rfl
      · exact absurd ((isInt_iff a).1 h).1 hk2
    have ea : asE a = 0 := by unfold asE; rw [if_pos hn, if_neg hk2]
    have va : asV a = a.n := by unfold asV; rw [if_pos hn, if_neg hk2]
    have hf : fits a.n = true := (fits_iff a.n).2 ((isNum_iff a).1 hn).2
    have e0 : wholeO floV (fun _ => 0) a = okO 2 (floV a.n) := by unfold wholeO realO; rw [hni, if_neg (by simp), if_pos ea, va]; rfl
    rw [e0]
    clear e0 ea va hni hk2 hn hf
    have HV := Lib.hid (fun W => refFloor_any a.n W)
    generalize floV a.n = v at *
    have hW := fun W => refReal_at v W
    have hO := fun W => refOne_at 2 v W
    obtain ⟨ka, xa, ca, na, sa, ra, fa, la⟩ := a
    unfold mk Ob.vl at *
    simp only at *
    go_enter Tryd.func23, Tryd.ntmps23
    go_wp2_with fail
    refine (HV.out _).mono ?_; rintro e w1 ⟨rfl, rfl⟩
    go_wp2_with fail
    refine (hW _).mono ?_; rintro e w1 ⟨rfl, hb1⟩
    have HB1 := Lib.hid (bthen (below1 _ _) hb1)
    clear hb1
    go_wp2_with fail
    refine (hO _).mono ?_; rintro e w2 ⟨bq, hbq, rfl, hro⟩
    have HRO := Lib.hid (hro.after HB1.out)
    clear hro
    go_wp2_with fail
    go_ret2
    exact HRO.out
theorem un_floor (a : Ob) (hn : isNumB a = true) (w : World) : Calls Tryd.prog 23 #[.string ⟨#[102, 108, 111, 111, 114]⟩, a.vl] w fun e w' => RefO w (wholeO floV (fun _ => 0) a) e w' := by
  cases hk : (a.kind == 1)
  · exact un_floor_real a hn hk w
  · exact un_floor_int a hn hk w
set_option maxHeartbeats 2000000 in
set_option maxRecDepth 100000 in
theorem ref_floor_no {a : Ob} {B c : Nat} {w : World} (ha : At10 w B 0 a) (hn : isNumB a = false) : Calls Tryd.prog 12 #[.string ⟨#[102, 108, 111, 111, 114]⟩, .slice (some ⟨B, 0, none⟩) 1 c] w fun e w' => RefO w (wholeO floV (fun _ => 0) a) e w' := by
    have e0 : wholeO floV (fun _ => 0) a = noO 16 := by unfold wholeO realO; rw [if_neg (fun h => by rw [isInt_num h] at hn; cases hn)]; unfold asE; rw [hn]; first | rfl | simp
    rw [e0]
    clear e0
    have hNa := refNum_at a
    rw [hn] at hNa
    clear hn
    obtain ⟨a0, a1, a2, a3, a4, a5, a6, a7, a8, a9⟩ := ha
    simp only [Nat.zero_add] at *
    have hlt := World.block_lt_of_cell? w _ a0
    obtain ⟨ka, xa, ca, na, sa, ra, fa, la⟩ := a
    unfold Ob.vl at *
    simp only at *
    go_enter Tryd.func12, Tryd.ntmps12
    go_wp2_with fail
    refine (hNa _).mono ?_; rintro e w1 ⟨rfl, hb1⟩
    have p10 := rule hb1 (w.heap.size) (by simp <;> omega)
    have HB1 := Lib.hid (bthen (below1 _ _ ) hb1)
    have hz1 : w.heap.size < w1.heap.size := by have := hb1.size; simp at this; omega
    clear hb1
    go_wp2_with fail
    go_ret2
    exact RefO.err (by decide) HB1.out
set_option maxHeartbeats 2000000 in
set_option maxRecDepth 100000 in
theorem ref_floor_ok {a : Ob} {B c : Nat} {w : World} (ha : At10 w B 0 a) (hn : isNumB a = true) (hU : ∀ W, Calls Tryd.prog 23 #[.string ⟨#[102, 108, 111, 111, 114]⟩, a.vl] W fun e w' => RefO W (wholeO floV (fun _ => 0) a) e w') (hz : (wholeO floV (fun _ => 0) a).e = 0) : Calls Tryd.prog 12 #[.string ⟨#[102, 108, 111, 111, 114]⟩, .slice (some ⟨B, 0, none⟩) 1 c] w fun e w' => RefO w (wholeO floV (fun _ => 0) a) e w' := by
    generalize wholeO floV (fun _ => 0) a = r at *
    have HU := Lib.hid hU
    have HZ := Lib.hid hz
    have hNa := refNum_at a
    rw [hn] at hNa
    clear hn hU hz
    obtain ⟨a0, a1, a2, a3, a4, a5, a6, a7, a8, a9⟩ := ha
    simp only [Nat.zero_add] at *
    have hlt := World.block_lt_of_cell? w _ a0
    obtain ⟨ka, xa, ca, na, sa, ra, fa, la⟩ := a
    unfold Ob.vl at *
    simp only at *
    go_enter Tryd.func12, Tryd.ntmps12
    go_wp2_with fail
    refine (hNa _).mono ?_; rintro e w1 ⟨rfl, hb1⟩
    have p10 := rule hb1 (w.heap.size) (by simp <;> omega)
    have HB1 := Lib.hid (bthen (below1 _ _ ) hb1)
    have hz1 : w.heap.size < w1.heap.size := by have := hb1.size; simp at this; omega
    clear hb1
    go_wp2_with fail
    refine (HU.out _).mono ?_; rintro e w2 hro
    obtain ⟨bq, hbq, rfl, hcs⟩ := hro.ok HZ.out
    have HRO := Lib.hid (hro.after HB1.out)
    clear hro hcs hbq
    go_wp2_with fail
    go_ret2
    exact HRO.out
set_option maxHeartbeats 2000000 in
set_option maxRecDepth 100000 in
theorem ref_floor_er {a : Ob} {B c : Nat} {w : World} (ha : At10 w B 0 a) (hn : isNumB a = true) (hU : ∀ W, Calls Tryd.prog 23 #[.string ⟨#[102, 108, 111, 111, 114]⟩, a.vl] W fun e w' => RefO W (wholeO floV (fun _ => 0) a) e w') (hz : (wholeO floV (fun _ => 0) a).e ≠ 0) : Calls Tryd.prog 12 #[.string ⟨#[102, 108, 111, 111, 114]⟩, .slice (some ⟨B, 0, none⟩) 1 c] w fun e w' => RefO w (wholeO floV (fun _ => 0) a) e w' := by
    generalize wholeO floV (fun _ => 0) a = r at *
    have HU := Lib.hid hU
    have HZ := Lib.hid hz
    have hNa := refNum_at a
    rw [hn] at hNa
    clear hn hU hz
    obtain ⟨a0, a1, a2, a3, a4, a5, a6, a7, a8, a9⟩ := ha
    simp only [Nat.zero_add] at *
    have hlt := World.block_lt_of_cell? w _ a0
    obtain ⟨ka, xa, ca, na, sa, ra, fa, la⟩ := a
    unfold Ob.vl at *
    simp only at *
    go_enter Tryd.func12, Tryd.ntmps12
    go_wp2_with fail
    refine (hNa _).mono ?_; rintro e w1 ⟨rfl, hb1⟩
    have p10 := rule hb1 (w.heap.size) (by simp <;> omega)
    have HB1 := Lib.hid (bthen (below1 _ _ ) hb1)
    have hz1 : w.heap.size < w1.heap.size := by have := hb1.size; simp at this; omega
    clear hb1
    go_wp2_with fail
    refine (HU.out _).mono ?_; rintro e w2 hro
    obtain rfl := hro.no HZ.out
    have HRO := Lib.hid (hro.after HB1.out)
    clear hro
    go_wp2_with fail
    go_ret2
    exact HRO.out
theorem ref_floor {a : Ob} {B c : Nat} {w : World} (ha : At10 w B 0 a) : Calls Tryd.prog 12 #[.string ⟨#[102, 108, 111, 111, 114]⟩, .slice (some ⟨B, 0, none⟩) 1 c] w fun e w' => RefO w (wholeO floV (fun _ => 0) a) e w' := by
  cases hn : isNumB a
  · exact ref_floor_no ha hn
  · by_cases hz : (wholeO floV (fun _ => 0) a).e = 0
    · exact ref_floor_ok ha hn (fun W => un_floor a hn W) hz
    · exact ref_floor_er ha hn (fun W => un_floor a hn W) hz
set_option maxHeartbeats 2000000 in
set_option maxRecDepth 100000 in
theorem un_truncate_int (a : Ob) (hn : isNumB a = true) (hk : (a.kind == 1) = true) (w : World) : Calls Tryd.prog 23 #[.string ⟨#[116, 114, 117, 110, 99, 97, 116, 101]⟩, a.vl] w fun e w' => RefO w (wholeO truV (fun _ => 0) a) e w' := by
    have hi : isIntB a = true := by rw [isInt_iff]; exact ⟨by simpa using hk, ((isNum_iff a).1 hn).2⟩
    have e0 : wholeO truV (fun _ => 0) a = okO 1 a.n := by unfold wholeO; rw [if_pos hi]
    rw [e0]
    clear e0 hi hn
    have hW := fun W => refWhole_at a.n W
    have hO := fun W => refOne_at 1 a.n W
    obtain ⟨ka, xa, ca, na, sa, ra, fa, la⟩ := a
    unfold mk Ob.vl at *
    simp only at *
    go_enter Tryd.func23, Tryd.ntmps23
    go_wp2_with fail
    refine (hW _).mono ?_; rintro e w1 ⟨rfl, hb1⟩
    have HB1 := Lib.hid (bthen (below1 _ _) hb1)
    clear hb1
    go_wp2_with fail
    refine (hO _).mono ?_; rintro e w2 ⟨bq, hbq, rfl, hro⟩
    have HRO := Lib.hid (hro.after HB1.out)
    clear hro
    go_wp2_with fail
    go_ret2
    exact HRO.out
set_option maxHeartbeats 2000000 in
set_option maxRecDepth 100000 in
theorem un_truncate_real (a : Ob) (hn : isNumB a = true) (hk : (a.kind == 1) = false) (w : World) : Calls Tryd.prog 23 #[.string ⟨#[116, 114, 117, 110, 99, 97, 116, 101]⟩, a.vl] w fun e w' => RefO w (wholeO truV (fun _ => 0) a) e w' := by
    have hk2 : ¬ a.kind = 1 := by simpa using hk
    have hni : isIntB a = false := by
      cases h : isIntB a
      · rfl
      · exact absurd ((isInt_iff a).1 h).1 hk2
    have ea : asE a = 0 := by unfold asE; rw [if_pos hn, if_neg hk2]
    have va : asV a = a.n := by unfold asV; rw [if_pos hn, if_neg hk2]
    have hf : fits a.n = true := (fits_iff a.n).2 ((isNum_iff a).1 hn).2
    have e0 : wholeO truV (fun _ => 0) a = okO 2 (truV a.n) := by unfold wholeO realO; rw [hni, if_neg (by simp), if_pos ea, va]; rfl
    rw [e0]
    clear e0 ea va hni hk2 hn hf
    have HV := Lib.hid (fun W => refTruncate_any a.n W)
    generalize truV a.n = v at *
    have hW := fun W => refReal_at v W
    have hO := fun W => refOne_at 2 v W
    obtain ⟨ka, xa, ca, na, sa, ra, fa, la⟩ := a
    unfold mk Ob.vl at *
    simp only at *
    go_enter Tryd.func23, Tryd.ntmps23
    go_wp2_with fail
    refine (HV.out _).mono ?_; rintro e w1 ⟨rfl, rfl⟩
    go_wp2_with fail
    refine (hW _).mono ?_; rintro e w1 ⟨rfl, hb1⟩
    have HB1 := Lib.hid (bthen (below1 _ _) hb1)
    clear hb1
    go_wp2_with fail
    refine (hO _).mono ?_; rintro e w2 ⟨bq, hbq, rfl, hro⟩
    have HRO := Lib.hid (hro.after HB1.out)
    clear hro
    go_wp2_with fail
    go_ret2
    exact HRO.out
theorem un_truncate (a : Ob) (hn : isNumB a = true) (w : World) : Calls Tryd.prog 23 #[.string ⟨#[116, 114, 117, 110, 99, 97, 116, 101]⟩, a.vl] w fun e w' => RefO w (wholeO truV (fun _ => 0) a) e w' := by
  cases hk : (a.kind == 1)
  · exact un_truncate_real a hn hk w
  · exact un_truncate_int a hn hk w
set_option maxHeartbeats 2000000 in
set_option maxRecDepth 100000 in
theorem ref_truncate_no {a : Ob} {B c : Nat} {w : World} (ha : At10 w B 0 a) (hn : isNumB a = false) : Calls Tryd.prog 12 #[.string ⟨#[116, 114, 117, 110, 99, 97, 116, 101]⟩, .slice (some ⟨B, 0, none⟩) 1 c] w fun e w' => RefO w (wholeO truV (fun _ => 0) a) e w' := by
    have e0 : wholeO truV (fun _ => 0) a = noO 16 := by unfold wholeO realO; rw [if_neg (fun h => by rw [isInt_num h] at hn; cases hn)]; unfold asE; rw [hn]; first | rfl | simp
    rw [e0]
    clear e0
    have hNa := refNum_at a
    rw [hn] at hNa
    clear hn
    obtain ⟨a0, a1, a2, a3, a4, a5, a6, a7, a8, a9⟩ := ha
    simp only [Nat.zero_add] at *
    have hlt := World.block_lt_of_cell? w _ a0
    obtain ⟨ka, xa, ca, na, sa, ra, fa, la⟩ := a
    unfold Ob.vl at *
    simp only at *
    go_enter Tryd.func12, Tryd.ntmps12
    go_wp2_with fail
    refine (hNa _).mono ?_; rintro e w1 ⟨rfl, hb1⟩
    have p10 := rule hb1 (w.heap.size) (by simp <;> omega)
    have HB1 := Lib.hid (bthen (below1 _ _ ) hb1)
    have hz1 : w.heap.size < w1.heap.size := by have := hb1.size; simp at this; omega
    clear hb1
    go_wp2_with fail
    go_ret2
    exact RefO.err (by decide) HB1.out
set_option maxHeartbeats 2000000 in
set_option maxRecDepth 100000 in
theorem ref_truncate_ok {a : Ob} {B c : Nat} {w : World} (ha : At10 w B 0 a) (hn : isNumB a = true) (hU : ∀ W, Calls Tryd.prog 23 #[.string ⟨#[116, 114, 117, 110, 99, 97, 116, 101]⟩, a.vl] W fun e w' => RefO W (wholeO truV (fun _ => 0) a) e w') (hz : (wholeO truV (fun _ => 0) a).e = 0) : Calls Tryd.prog 12 #[.string ⟨#[116, 114, 117, 110, 99, 97, 116, 101]⟩, .slice (some ⟨B, 0, none⟩) 1 c] w fun e w' => RefO w (wholeO truV (fun _ => 0) a) e w' := by
    generalize wholeO truV (fun _ => 0) a = r at *
    have HU := Lib.hid hU
    have HZ := Lib.hid hz
    have hNa := refNum_at a
    rw [hn] at hNa
    clear hn hU hz
    obtain ⟨a0, a1, a2, a3, a4, a5, a6, a7, a8, a9⟩ := ha
    simp only [Nat.zero_add] at *
    have hlt := World.block_lt_of_cell? w _ a0
    obtain ⟨ka, xa, ca, na, sa, ra, fa, la⟩ := a
    unfold Ob.vl at *
    simp only at *
    go_enter Tryd.func12, Tryd.ntmps12
    go_wp2_with fail
    refine (hNa _).mono ?_; rintro e w1 ⟨rfl, hb1⟩
    have p10 := rule hb1 (w.heap.size) (by simp <;> omega)
    have HB1 := Lib.hid (bthen (below1 _ _ ) hb1)
    have hz1 : w.heap.size < w1.heap.size := by have := hb1.size; simp at this; omega
    clear hb1
    go_wp2_with fail
    refine (HU.out _).mono ?_; rintro e w2 hro
    obtain ⟨bq, hbq, rfl, hcs⟩ := hro.ok HZ.out
    have HRO := Lib.hid (hro.after HB1.out)
    clear hro hcs hbq
    go_wp2_with fail
    go_ret2
    exact HRO.out
set_option maxHeartbeats 2000000 in
set_option maxRecDepth 100000 in
theorem ref_truncate_er {a : Ob} {B c : Nat} {w : World} (ha : At10 w B 0 a) (hn : isNumB a = true) (hU : ∀ W, Calls Tryd.prog 23 #[.string ⟨#[116, 114, 117, 110, 99, 97, 116, 101]⟩, a.vl] W fun e w' => RefO W (wholeO truV (fun _ => 0) a) e w') (hz : (wholeO truV (fun _ => 0) a).e ≠ 0) : Calls Tryd.prog 12 #[.string ⟨#[116, 114, 117, 110, 99, 97, 116, 101]⟩, .slice (some ⟨B, 0, none⟩) 1 c] w fun e w' => RefO w (wholeO truV (fun _ => 0) a) e w' := by
    generalize wholeO truV (fun _ => 0) a = r at *
    have HU := Lib.hid hU
    have HZ := Lib.hid hz
    have hNa := refNum_at a
    rw [hn] at hNa
    clear hn hU hz
    obtain ⟨a0, a1, a2, a3, a4, a5, a6, a7, a8, a9⟩ := ha
    simp only [Nat.zero_add] at *
    have hlt := World.block_lt_of_cell? w _ a0
    obtain ⟨ka, xa, ca, na, sa, ra, fa, la⟩ := a
    unfold Ob.vl at *
    simp only at *
    go_enter Tryd.func12, Tryd.ntmps12
    go_wp2_with fail
    refine (hNa _).mono ?_; rintro e w1 ⟨rfl, hb1⟩
    have p10 := rule hb1 (w.heap.size) (by simp <;> omega)
    have HB1 := Lib.hid (bthen (below1 _ _ ) hb1)
    have hz1 : w.heap.size < w1.heap.size := by have := hb1.size; simp at this; omega
    clear hb1
    go_wp2_with fail
    refine (HU.out _).mono ?_; rintro e w2 hro
    obtain rfl := hro.no HZ.out
    have HRO := Lib.hid (hro.after HB1.out)
    clear hro
    go_wp2_with fail
    go_ret2
    exact HRO.out
theorem ref_truncate {a : Ob} {B c : Nat} {w : World} (ha : At10 w B 0 a) : Calls Tryd.prog 12 #[.string ⟨#[116, 114, 117, 110, 99, 97, 116, 101]⟩, .slice (some ⟨B, 0, none⟩) 1 c] w fun e w' => RefO w (wholeO truV (fun _ => 0) a) e w' := by
  cases hn : isNumB a
  · exact ref_truncate_no ha hn
  · by_cases hz : (wholeO truV (fun _ => 0) a).e = 0
    · exact ref_truncate_ok ha hn (fun W => un_truncate a hn W) hz
    · exact ref_truncate_er ha hn (fun W => un_truncate a hn W) hz
end Ari
end Go.Proofs.YtgbpldfcahajeaaDoor
namespace Go.Proofs.YtgbpldfcahajeaaDoor
open Go.RowKit
open Fx
namespace Ari
set_option maxHeartbeats 2000000 in
set_option maxRecDepth 100000 in
theorem un_sqrt_far (a : Ob) (hn : isNumB a = true) (hz : asE a ≠ 0) (w : World) : Calls Tryd.prog 23 #[.string ⟨#[115, 113, 114, 116]⟩, a.vl] w fun e w' => RefO w (realO sqV sqE a) e w' := by
    have e0 : realO sqV sqE a = noO (asE a) := by unfold realO; rw [if_neg hz]
    rw [e0]
    clear e0
    have hX := fun W => refAs_at a W hn
    have hz' : (asE a == 0) = false := by simpa using hz
    have HZ := Lib.hid hz
    clear hz hn
    generalize asV a = x at *
    generalize asE a = ea at *
    obtain ⟨ka, xa, ca, na, sa, ra, fa, la⟩ := a
    unfold Ob.vl at *
    simp only at *
    go_enter Tryd.func23, Tryd.ntmps23
    go_wp2_with fail
    refine (hX _).mono ?_; rintro e w3 ⟨rfl, hb3⟩
    have HB3 := Lib.hid (bthen (below1 _ _) hb3)
    clear hb3
    go_wp2_with fail
    go_ret2
    exact RefO.err HZ.out HB3.out
set_option maxHeartbeats 2000000 in
set_option maxRecDepth 100000 in
theorem un_sqrt_ok (a : Ob) (hn : isNumB a = true) (hz : asE a = 0) (hu : sqE (asV a) = 0) (w : World) : Calls Tryd.prog 23 #[.string ⟨#[115, 113, 114, 116]⟩, a.vl] w fun e w' => RefO w (realO sqV sqE a) e w' := by
    have e0 : realO sqV sqE a = okO 2 (sqV (asV a)) := by unfold realO; rw [if_pos hz]; unfold madeO; rw [if_pos hu]
    rw [e0]
    clear e0
    have hX := fun W => refAs_at a W hn
    have fx := asV_fits hz
    rw [hz] at hX
    have HV := Lib.hid (fun W => refSq_any (asV a) W fx)
    clear hz hn fx
    generalize asV a = x at *
    generalize sqV x = v at *
    generalize sqE x = u at *
    subst hu
    have HG := Lib.hid (fun W => refGives_ok v W)
    obtain ⟨ka, xa, ca, na, sa, ra, fa, la⟩ := a
    unfold Ob.vl at *
    simp only at *
    go_enter Tryd.func23, Tryd.ntmps23
    go_wp2_with fail
    refine (hX _).mono ?_; rintro e w3 ⟨rfl, hb3⟩
    have HB3 := Lib.hid (bthen (below1 _ _) hb3)
    clear hb3
    go_wp2_with fail
    refine (HV.out _).mono ?_; rintro e w4 ⟨rfl, rfl⟩
    go_wp2_with fail
    refine (HG.out _).mono ?_; rintro e w4 ⟨bq, hbq, rfl, hro⟩
    have HRO := Lib.hid (hro.after HB3.out)
    clear hro
    go_wp2_with fail
    go_ret2
    exact HRO.out
set_option maxHeartbeats 2000000 in
set_option maxRecDepth 100000 in
theorem un_sqrt_er (a : Ob) (hn : isNumB a = true) (hz : asE a = 0) (hu : sqE (asV a) ≠ 0) (w : World) : Calls Tryd.prog 23 #[.string ⟨#[115, 113, 114, 116]⟩, a.vl] w fun e w' => RefO w (realO sqV sqE a) e w' := by
    have e0 : realO sqV sqE a = noO (sqE (asV a)) := by unfold realO; rw [if_pos hz]; unfold madeO; rw [if_neg hu]
    rw [e0]
    clear e0
    have hX := fun W => refAs_at a W hn
    have fx := asV_fits hz
    rw [hz] at hX
    have HV := Lib.hid (fun W => refSq_any (asV a) W fx)
    clear hz hn fx
    generalize asV a = x at *
    generalize sqV x = v at *
    generalize sqE x = u at *
    have HG := Lib.hid (fun W => refGives_no v u hu W)
    have HZ := Lib.hid hu
    clear hu
    obtain ⟨ka, xa, ca, na, sa, ra, fa, la⟩ := a
    unfold Ob.vl at *
    simp only at *
    go_enter Tryd.func23, Tryd.ntmps23
    go_wp2_with fail
    refine (hX _).mono ?_; rintro e w3 ⟨rfl, hb3⟩
    have HB3 := Lib.hid (bthen (below1 _ _) hb3)
    clear hb3
    go_wp2_with fail
    refine (HV.out _).mono ?_; rintro e w4 ⟨rfl, rfl⟩
    go_wp2_with fail
    refine (HG.out _).mono ?_; rintro e w6 ⟨rfl, rfl⟩
    go_wp2_with fail
    go_ret2
    exact RefO.err HZ.out HB3.out
theorem un_sqrt (a : Ob) (hn : isNumB a = true) (w : World) : Calls Tryd.prog 23 #[.string ⟨#[115, 113, 114, 116]⟩, a.vl] w fun e w' => RefO w (realO sqV sqE a) e w' := by
  by_cases hz : asE a = 0
  · by_cases hu : sqE (asV a) = 0
    · exact un_sqrt_ok a hn hz hu w
    · exact un_sqrt_er a hn hz hu w
  · exact un_sqrt_far a hn hz w
set_option maxHeartbeats 2000000 in
set_option maxRecDepth 100000 in
theorem ref_sqrt_no {a : Ob} {B c : Nat} {w : World} (ha : At10 w B 0 a) (hn : isNumB a = false) : Calls Tryd.prog 12 #[.string ⟨#[115, 113, 114, 116]⟩, .slice (some ⟨B, 0, none⟩) 1 c] w fun e w' => RefO w (realO sqV sqE a) e w' := by
    have e0 : realO sqV sqE a = noO 16 := by unfold realO asE; rw [hn]; first | rfl | simp
    rw [e0]
    clear e0
    have hNa := refNum_at a
    rw [hn] at hNa
    clear hn
    obtain ⟨a0, a1, a2, a3, a4, a5, a6, a7, a8, a9⟩ := ha
    simp only [Nat.zero_add] at *
    have hlt := World.block_lt_of_cell? w _ a0
    obtain ⟨ka, xa, ca, na, sa, ra, fa, la⟩ := a
    unfold Ob.vl at *
    simp only at *
    go_enter Tryd.func12, Tryd.ntmps12
    go_wp2_with fail
    refine (hNa _).mono ?_; rintro e w1 ⟨rfl, hb1⟩
    have p10 := rule hb1 (w.heap.size) (by simp <;> omega)
    have HB1 := Lib.hid (bthen (below1 _ _ ) hb1)
    have hz1 : w.heap.size < w1.heap.size := by have := hb1.size; simp at this; omega
    clear hb1
    go_wp2_with fail
    go_ret2
    exact RefO.err (by decide) HB1.out
set_option maxHeartbeats 2000000 in
set_option maxRecDepth 100000 in
theorem ref_sqrt_ok {a : Ob} {B c : Nat} {w : World} (ha : At10 w B 0 a) (hn : isNumB a = true) (hU : ∀ W, Calls Tryd.prog 23 #[.string ⟨#[115, 113, 114, 116]⟩, a.vl] W fun e w' => RefO W (realO sqV sqE a) e w') (hz : (realO sqV sqE a).e = 0) : Calls Tryd.prog 12 #[.string ⟨#[115, 113, 114, 116]⟩, .slice (some ⟨B, 0, none⟩) 1 c] w fun e w' => RefO w (realO sqV sqE a) e w' := by
    generalize realO sqV sqE a = r at *
    have HU := Lib.hid hU
    have HZ := Lib.hid hz
    have hNa := refNum_at a
    rw [hn] at hNa
    clear hn hU hz
    obtain ⟨a0, a1, a2, a3, a4, a5, a6, a7, a8, a9⟩ := ha
    simp only [Nat.zero_add] at *
    have hlt := World.block_lt_of_cell? w _ a0
    obtain ⟨ka, xa, ca, na, sa, ra, fa, la⟩ := a
    unfold Ob.vl at *
    simp only at *
    go_enter Tryd.func12, Tryd.ntmps12
    go_wp2_with fail
    refine (hNa _).mono ?_; rintro e w1 ⟨rfl, hb1⟩
    have p10 := rule hb1 (w.heap.size) (by simp <;> omega)
    have HB1 := Lib.hid (bthen (below1 _ _ ) hb1)
    have hz1 : w.heap.size < w1.heap.size := by have := hb1.size; simp at this; omega
    clear hb1
    go_wp2_with fail
    refine (HU.out _).mono ?_; rintro e w2 hro
    obtain ⟨bq, hbq, rfl, hcs⟩ := hro.ok HZ.out
    have HRO := Lib.hid (hro.after HB1.out)
    clear hro hcs hbq
    go_wp2_with fail
    go_ret2
    exact HRO.out
set_option maxHeartbeats 2000000 in
set_option maxRecDepth 100000 in
theorem ref_sqrt_er {a : Ob} {B c : Nat} {w : World} (ha : At10 w B 0 a) (hn : isNumB a = true) (hU : ∀ W, Calls Tryd.prog 23 #[.string ⟨#[115, 113, 114, 116]⟩, a.vl] W fun e w' => RefO W (realO sqV sqE a) e w') (hz : (realO sqV sqE a).e ≠ 0) : Calls Tryd.prog 12 #[.string ⟨#[115, 113, 114, 116]⟩, .slice (some ⟨B, 0, none⟩) 1 c] w fun e w' => RefO w (realO sqV sqE a) e w' := by
    generalize realO sqV sqE a = r at *
    have HU := Lib.hid hU
    have HZ := Lib.hid hz
    have hNa := refNum_at a
    rw [hn] at hNa
    clear hn hU hz
    obtain ⟨a0, a1, a2, a3, a4, a5, a6, a7, a8, a9⟩ := ha
    simp only [Nat.zero_add] at *
    have hlt := World.block_lt_of_cell? w _ a0
    obtain ⟨ka, xa, ca, na, sa, ra, fa, la⟩ := a
    unfold Ob.vl at *
    simp only at *
    go_enter Tryd.func12, Tryd.ntmps12
    go_wp2_with fail
    refine (hNa _).mono ?_; rintro e w1 ⟨rfl, hb1⟩
    have p10 := rule hb1 (w.heap.size) (by simp <;> omega)
    have HB1 := Lib.hid (bthen (below1 _ _ ) hb1)
    have hz1 : w.heap.size < w1.heap.size := by have := hb1.size; simp at this; omega
    clear hb1
    go_wp2_with fail
    refine (HU.out _).mono ?_; rintro e w2 hro
    obtain rfl := hro.no HZ.out
    have HRO := Lib.hid (hro.after HB1.out)
    clear hro
    go_wp2_with fail
    go_ret2
    exact HRO.out
theorem ref_sqrt {a : Ob} {B c : Nat} {w : World} (ha : At10 w B 0 a) : Calls Tryd.prog 12 #[.string ⟨#[115, 113, 114, 116]⟩, .slice (some ⟨B, 0, none⟩) 1 c] w fun e w' => RefO w (realO sqV sqE a) e w' := by
  cases hn : isNumB a
  · exact ref_sqrt_no ha hn
  · by_cases hz : (realO sqV sqE a).e = 0
    · exact ref_sqrt_ok ha hn (fun W => un_sqrt a hn W) hz
    · exact ref_sqrt_er ha hn (fun W => un_sqrt a hn W) hz
set_option maxHeartbeats 2000000 in
set_option maxRecDepth 100000 in
theorem un_sin_far (a : Ob) (hn : isNumB a = true) (hz : asE a ≠ 0) (w : World) : Calls Tryd.prog 23 #[.string ⟨#[115, 105, 110]⟩, a.vl] w fun e w' => RefO w (realO sinV (fun _ => 0) a) e w' := by
    have e0 : realO sinV (fun _ => 0) a = noO (asE a) := by unfold realO; rw [if_neg hz]
    rw [e0]
    clear e0
    have hX := fun W => refAs_at a W hn
    have hz' : (asE a == 0) = false := by simpa using hz
    have HZ := Lib.hid hz
    clear hz hn
    generalize asV a = x at *
    generalize asE a = ea at *
    obtain ⟨ka, xa, ca, na, sa, ra, fa, la⟩ := a
    unfold Ob.vl at *
    simp only at *
    go_enter Tryd.func23, Tryd.ntmps23
    go_wp2_with fail
    refine (hX _).mono ?_; rintro e w3 ⟨rfl, hb3⟩
    have HB3 := Lib.hid (bthen (below1 _ _) hb3)
    clear hb3
    go_wp2_with fail
    go_ret2
    exact RefO.err HZ.out HB3.out
set_option maxHeartbeats 2000000 in
set_option maxRecDepth 100000 in
theorem un_sin_ok (a : Ob) (hn : isNumB a = true) (hz : asE a = 0) (w : World) : Calls Tryd.prog 23 #[.string ⟨#[115, 105, 110]⟩, a.vl] w fun e w' => RefO w (realO sinV (fun _ => 0) a) e w' := by
    have e0 : realO sinV (fun _ => 0) a = okO 2 (sinV (asV a)) := by unfold realO; rw [if_pos hz]; rfl
    rw [e0]
    clear e0
    have hX := fun W => refAs_at a W hn
    have fx := asV_fits hz
    rw [hz] at hX
    have hV := fun W => refRotate_yes (asV a) fx W
    unfold RotY at hV
    unfold sinV
    clear hz hn fx
    generalize asV a = x at *
    generalize sinZ ((x + 32768) / 65536 + 90) = c1 at *
    generalize sinZ ((x + 32768) / 65536) = s1 at *
    have HV := Lib.hid hV
    clear hV
    have HG := Lib.hid (fun W => refGives_ok s1 W)
    obtain ⟨ka, xa, ca, na, sa, ra, fa, la⟩ := a
    unfold Ob.vl at *
    simp only at *
    go_enter Tryd.func23, Tryd.ntmps23
    go_wp2_with fail
    refine (hX _).mono ?_; rintro e w3 ⟨rfl, hb3⟩
    have HB3 := Lib.hid (bthen (below1 _ _) hb3)
    clear hb3
    go_wp2_with fail
    refine (HV.out _).mono ?_; rintro e w4 ⟨rfl, hb4⟩
    have HB4 := Lib.hid (bthen (bthen HB3.out hb4) (below1 w4 (.cells #[.int .i64 c1, .int .i64 s1, .int .i64 (-s1), .int .i64 c1, .int .i64 0, .int .i64 0] 79)))
    clear hb4
    go_wp2_with fail
    refine (HG.out _).mono ?_; rintro e w5 ⟨bq, hbq, rfl, hro⟩
    have HRO := Lib.hid (hro.after HB4.out)
    clear hro
    go_wp2_with fail
    go_ret2
    exact HRO.out
theorem un_sin (a : Ob) (hn : isNumB a = true) (w : World) : Calls Tryd.prog 23 #[.string ⟨#[115, 105, 110]⟩, a.vl] w fun e w' => RefO w (realO sinV (fun _ => 0) a) e w' := by
  by_cases hz : asE a = 0
  · exact un_sin_ok a hn hz w
  · exact un_sin_far a hn hz w
set_option maxHeartbeats 2000000 in
set_option maxRecDepth 100000 in
theorem ref_sin_no {a : Ob} {B c : Nat} {w : World} (ha : At10 w B 0 a) (hn : isNumB a = false) : Calls Tryd.prog 12 #[.string ⟨#[115, 105, 110]⟩, .slice (some ⟨B, 0, none⟩) 1 c] w fun e w' => RefO w (realO sinV (fun _ => 0) a) e w' := by
    have e0 : realO sinV (fun _ => 0) a = noO 16 := by unfold realO asE; rw [hn]; first | rfl | simp
    rw [e0]
    clear e0
    have hNa := refNum_at a
    rw [hn] at hNa
    clear hn
    obtain ⟨a0, a1, a2, a3, a4, a5, a6, a7, a8, a9⟩ := ha
    simp only [Nat.zero_add] at *
    have hlt := World.block_lt_of_cell? w _ a0
    obtain ⟨ka, xa, ca, na, sa, ra, fa, la⟩ := a
    unfold Ob.vl at *
    simp only at *
    go_enter Tryd.func12, Tryd.ntmps12
    go_wp2_with fail
    refine (hNa _).mono ?_; rintro e w1 ⟨rfl, hb1⟩
    have p10 := rule hb1 (w.heap.size) (by simp <;> omega)
    have HB1 := Lib.hid (bthen (below1 _ _ ) hb1)
    have hz1 : w.heap.size < w1.heap.size := by have := hb1.size; simp at this; omega
    clear hb1
    go_wp2_with fail
    go_ret2
    exact RefO.err (by decide) HB1.out
set_option maxHeartbeats 2000000 in
set_option maxRecDepth 100000 in
theorem ref_sin_ok {a : Ob} {B c : Nat} {w : World} (ha : At10 w B 0 a) (hn : isNumB a = true) (hU : ∀ W, Calls Tryd.prog 23 #[.string ⟨#[115, 105, 110]⟩, a.vl] W fun e w' => RefO W (realO sinV (fun _ => 0) a) e w') (hz : (realO sinV (fun _ => 0) a).e = 0) : Calls Tryd.prog 12 #[.string ⟨#[115, 105, 110]⟩, .slice (some ⟨B, 0, none⟩) 1 c] w fun e w' => RefO w (realO sinV (fun _ => 0) a) e w' := by
    generalize realO sinV (fun _ => 0) a = r at *
    have HU := Lib.hid hU
    have HZ := Lib.hid hz
    have hNa := refNum_at a
    rw [hn] at hNa
    clear hn hU hz
    obtain ⟨a0, a1, a2, a3, a4, a5, a6, a7, a8, a9⟩ := ha
    simp only [Nat.zero_add] at *
    have hlt := World.block_lt_of_cell? w _ a0
    obtain ⟨ka, xa, ca, na, sa, ra, fa, la⟩ := a
    unfold Ob.vl at *
    simp only at *
    go_enter Tryd.func12, Tryd.ntmps12
    go_wp2_with fail
    refine (hNa _).mono ?_; rintro e w1 ⟨rfl, hb1⟩
    have p10 := rule hb1 (w.heap.size) (by simp <;> omega)
    have HB1 := Lib.hid (bthen (below1 _ _ ) hb1)
    have hz1 : w.heap.size < w1.heap.size := by have := hb1.size; simp at this; omega
    clear hb1
    go_wp2_with fail
    refine (HU.out _).mono ?_; rintro e w2 hro
    obtain ⟨bq, hbq, rfl, hcs⟩ := hro.ok HZ.out
    have HRO := Lib.hid (hro.after HB1.out)
    clear hro hcs hbq
    go_wp2_with fail
    go_ret2
    exact HRO.out
set_option maxHeartbeats 2000000 in
set_option maxRecDepth 100000 in
theorem ref_sin_er {a : Ob} {B c : Nat} {w : World} (ha : At10 w B 0 a) (hn : isNumB a = true) (hU : ∀ W, Calls Tryd.prog 23 #[.string ⟨#[115, 105, 110]⟩, a.vl] W fun e w' => RefO W (realO sinV (fun _ => 0) a) e w') (hz : (realO sinV (fun _ => 0) a).e ≠ 0) : Calls Tryd.prog 12 #[.string ⟨#[115, 105, 110]⟩, .slice (some ⟨B, 0, none⟩) 1 c] w fun e w' => RefO w (realO sinV (fun _ => 0) a) e w' := by
    generalize realO sinV (fun _ => 0) a = r at *
    have HU := Lib.hid hU
    have HZ := Lib.hid hz
    have hNa := refNum_at a
    rw [hn] at hNa
    clear hn hU hz
    obtain ⟨a0, a1, a2, a3, a4, a5, a6, a7, a8, a9⟩ := ha
    simp only [Nat.zero_add] at *
    have hlt := World.block_lt_of_cell? w _ a0
    obtain ⟨ka, xa, ca, na, sa, ra, fa, la⟩ := a
    unfold Ob.vl at *
    simp only at *
    go_enter Tryd.func12, Tryd.ntmps12
    go_wp2_with fail
    refine (hNa _).mono ?_; rintro e w1 ⟨rfl, hb1⟩
    have p10 := rule hb1 (w.heap.size) (by simp <;> omega)
    have HB1 := Lib.hid (bthen (below1 _ _ ) hb1)
    have hz1 : w.heap.size < w1.heap.size := by have := hb1.size; simp at this; omega
    clear hb1
    go_wp2_with fail
    refine (HU.out _).mono ?_; rintro e w2 hro
    obtain rfl := hro.no HZ.out
    have HRO := Lib.hid (hro.after HB1.out)
    clear hro
    go_wp2_with fail
    go_ret2
    exact HRO.out
theorem ref_sin {a : Ob} {B c : Nat} {w : World} (ha : At10 w B 0 a) : Calls Tryd.prog 12 #[.string ⟨#[115, 105, 110]⟩, .slice (some ⟨B, 0, none⟩) 1 c] w fun e w' => RefO w (realO sinV (fun _ => 0) a) e w' := by
  cases hn : isNumB a
  · exact ref_sin_no ha hn
  · by_cases hz : (realO sinV (fun _ => 0) a).e = 0
    · exact ref_sin_ok ha hn (fun W => un_sin a hn W) hz
    · exact ref_sin_er ha hn (fun W => un_sin a hn W) hz
set_option maxHeartbeats 2000000 in
set_option maxRecDepth 100000 in
theorem un_cos_far (a : Ob) (hn : isNumB a = true) (hz : asE a ≠ 0) (w : World) : Calls Tryd.prog 23 #[.string ⟨#[99, 111, 115]⟩, a.vl] w fun e w' => RefO w (realO cosV (fun _ => 0) a) e w' := by
    have e0 : realO cosV (fun _ => 0) a = noO (asE a) := by unfold realO; rw [if_neg hz]
    rw [e0]
    clear e0
    have hX := fun W => refAs_at a W hn
    have hz' : (asE a == 0) = false := by simpa using hz
    have HZ := Lib.hid hz
    clear hz hn
    generalize asV a = x at *
    generalize asE a = ea at *
    obtain ⟨ka, xa, ca, na, sa, ra, fa, la⟩ := a
    unfold Ob.vl at *
    simp only at *
    go_enter Tryd.func23, Tryd.ntmps23
    go_wp2_with fail
    refine (hX _).mono ?_; rintro e w3 ⟨rfl, hb3⟩
    have HB3 := Lib.hid (bthen (below1 _ _) hb3)
    clear hb3
    go_wp2_with fail
    go_ret2
    exact RefO.err HZ.out HB3.out
set_option maxHeartbeats 2000000 in
set_option maxRecDepth 100000 in
theorem un_cos_ok (a : Ob) (hn : isNumB a = true) (hz : asE a = 0) (w : World) : Calls Tryd.prog 23 #[.string ⟨#[99, 111, 115]⟩, a.vl] w fun e w' => RefO w (realO cosV (fun _ => 0) a) e w' := by
    have e0 : realO cosV (fun _ => 0) a = okO 2 (cosV (asV a)) := by unfold realO; rw [if_pos hz]; rfl
    rw [e0]
    clear e0
    have hX := fun W => refAs_at a W hn
    have fx := asV_fits hz
    rw [hz] at hX
    have hV := fun W => refRotate_yes (asV a) fx W
    unfold RotY at hV
    unfold cosV
    clear hz hn fx
    generalize asV a = x at *
    generalize sinZ ((x + 32768) / 65536 + 90) = c1 at *
    generalize sinZ ((x + 32768) / 65536) = s1 at *
    have HV := Lib.hid hV
    clear hV
    have HG := Lib.hid (fun W => refGives_ok c1 W)
    obtain ⟨ka, xa, ca, na, sa, ra, fa, la⟩ := a
    unfold Ob.vl at *
    simp only at *
    go_enter Tryd.func23, Tryd.ntmps23
    go_wp2_with fail
    refine (hX _).mono ?_; rintro e w3 ⟨rfl, hb3⟩
    have HB3 := Lib.hid (bthen (below1 _ _) hb3)
    clear hb3
    go_wp2_with fail
    refine (HV.out _).mono ?_; rintro e w4 ⟨rfl, hb4⟩
    have HB4 := Lib.hid (bthen (bthen HB3.out hb4) (below1 w4 (.cells #[.int .i64 c1, .int .i64 s1, .int .i64 (-s1), .int .i64 c1, .int .i64 0, .int .i64 0] 79)))
    clear hb4
    go_wp2_with fail
    refine (HG.out _).mono ?_; rintro e w5 ⟨bq, hbq, rfl, hro⟩
    have HRO := Lib.hid (hro.after HB4.out)
    clear hro
    go_wp2_with fail
    go_ret2
    exact HRO.out
theorem un_cos (a : Ob) (hn : isNumB a = true) (w : World) : Calls Tryd.prog 23 #[.string ⟨#[99, 111, 115]⟩, a.vl] w fun e w' => RefO w (realO cosV (fun _ => 0) a) e w' := by
  by_cases hz : asE a = 0
  · exact un_cos_ok a hn hz w
  · exact un_cos_far a hn hz w
set_option maxHeartbeats 2000000 in
set_option maxRecDepth 100000 in
theorem ref_cos_no {a : Ob} {B c : Nat} {w : World} (ha : At10 w B 0 a) (hn : isNumB a = false) : Calls Tryd.prog 12 #[.string ⟨#[99, 111, 115]⟩, .slice (some ⟨B, 0, none⟩) 1 c] w fun e w' => RefO w (realO cosV (fun _ => 0) a) e w' := by
    have e0 : realO cosV (fun _ => 0) a = noO 16 := by unfold realO asE; rw [hn]; first | rfl | simp
    rw [e0]
    clear e0
    have hNa := refNum_at a
    rw [hn] at hNa
    clear hn
    obtain ⟨a0, a1, a2, a3, a4, a5, a6, a7, a8, a9⟩ := ha
    simp only [Nat.zero_add] at *
    have hlt := World.block_lt_of_cell? w _ a0
    obtain ⟨ka, xa, ca, na, sa, ra, fa, la⟩ := a
    unfold Ob.vl at *
    simp only at *
    go_enter Tryd.func12, Tryd.ntmps12
    go_wp2_with fail
    refine (hNa _).mono ?_; rintro e w1 ⟨rfl, hb1⟩
    have p10 := rule hb1 (w.heap.size) (by simp <;> omega)
    have HB1 := Lib.hid (bthen (below1 _ _ ) hb1)
    have hz1 : w.heap.size < w1.heap.size := by have := hb1.size; simp at this; omega
    clear hb1
    go_wp2_with fail
    go_ret2
    exact RefO.err (by decide) HB1.out
set_option maxHeartbeats 2000000 in
set_option maxRecDepth 100000 in
theorem ref_cos_ok {a : Ob} {B c : Nat} {w : World} (ha : At10 w B 0 a) (hn : isNumB a = true) (hU : ∀ W, Calls Tryd.prog 23 #[.string ⟨#[99, 111, 115]⟩, a.vl] W fun e w' => RefO W (realO cosV (fun _ => 0) a) e w') (hz : (realO cosV (fun _ => 0) a).e = 0) : Calls Tryd.prog 12 #[.string ⟨#[99, 111, 115]⟩, .slice (some ⟨B, 0, none⟩) 1 c] w fun e w' => RefO w (realO cosV (fun _ => 0) a) e w' := by
    generalize realO cosV (fun _ => 0) a = r at *
    have HU := Lib.hid hU
    have HZ := Lib.hid hz
    have hNa := refNum_at a
    rw [hn] at hNa
    clear hn hU hz
    obtain ⟨a0, a1, a2, a3, a4, a5, a6, a7, a8, a9⟩ := ha
    simp only [Nat.zero_add] at *
    have hlt := World.block_lt_of_cell? w _ a0
    obtain ⟨ka, xa, ca, na, sa, ra, fa, la⟩ := a
    unfold Ob.vl at *
    simp only at *
    go_enter Tryd.func12, Tryd.ntmps12
    go_wp2_with fail
    refine (hNa _).mono ?_; rintro e w1 ⟨rfl, hb1⟩
    have p10 := rule hb1 (w.heap.size) (by simp <;> omega)
    have HB1 := Lib.hid (bthen (below1 _ _ ) hb1)
    have hz1 : w.heap.size < w1.heap.size := by have := hb1.size; simp at this; omega
    clear hb1
    go_wp2_with fail
    refine (HU.out _).mono ?_; rintro e w2 hro
    obtain ⟨bq, hbq, rfl, hcs⟩ := hro.ok HZ.out
    have HRO := Lib.hid (hro.after HB1.out)
    clear hro hcs hbq
    go_wp2_with fail
    go_ret2
    exact HRO.out
set_option maxHeartbeats 2000000 in
set_option maxRecDepth 100000 in
theorem ref_cos_er {a : Ob} {B c : Nat} {w : World} (ha : At10 w B 0 a) (hn : isNumB a = true) (hU : ∀ W, Calls Tryd.prog 23 #[.string ⟨#[99, 111, 115]⟩, a.vl] W fun e w' => RefO W (realO cosV (fun _ => 0) a) e w') (hz : (realO cosV (fun _ => 0) a).e ≠ 0) : Calls Tryd.prog 12 #[.string ⟨#[99, 111, 115]⟩, .slice (some ⟨B, 0, none⟩) 1 c] w fun e w' => RefO w (realO cosV (fun _ => 0) a) e w' := by
    generalize realO cosV (fun _ => 0) a = r at *
    have HU := Lib.hid hU
    have HZ := Lib.hid hz
    have hNa := refNum_at a
    rw [hn] at hNa
    clear hn hU hz
    obtain ⟨a0, a1, a2, a3, a4, a5, a6, a7, a8, a9⟩ := ha
    simp only [Nat.zero_add] at *
    have hlt := World.block_lt_of_cell? w _ a0
    obtain ⟨ka, xa, ca, na, sa, ra, fa, la⟩ := a
    unfold Ob.vl at *
    simp only at *
    go_enter Tryd.func12, Tryd.ntmps12
    go_wp2_with fail
    refine (hNa _).mono ?_; rintro e w1 ⟨rfl, hb1⟩
    have p10 := rule hb1 (w.heap.size) (by simp <;> omega)
    have HB1 := Lib.hid (bthen (below1 _ _ ) hb1)
    have hz1 : w.heap.size < w1.heap.size := by have := hb1.size; simp at this; omega
    clear hb1
    go_wp2_with fail
    refine (HU.out _).mono ?_; rintro e w2 hro
    obtain rfl := hro.no HZ.out
    have HRO := Lib.hid (hro.after HB1.out)
    clear hro
    go_wp2_with fail
    go_ret2
    exact HRO.out
theorem ref_cos {a : Ob} {B c : Nat} {w : World} (ha : At10 w B 0 a) : Calls Tryd.prog 12 #[.string ⟨#[99, 111, 115]⟩, .slice (some ⟨B, 0, none⟩) 1 c] w fun e w' => RefO w (realO cosV (fun _ => 0) a) e w' := by
  cases hn : isNumB a
  · exact ref_cos_no ha hn
  · by_cases hz : (realO cosV (fun _ => 0) a).e = 0
    · exact ref_cos_ok ha hn (fun W => un_cos a hn W) hz
    · exact ref_cos_er ha hn (fun W => un_cos a hn W) hz
end Ari
end Go.Proofs.YtgbpldfcahajeaaDoor
namespace Go.Proofs.YtgbpldfcahajeaaDoor
open Go.RowKit
open Fx
namespace Ari
set_option maxHeartbeats 2000000 in
set_option maxRecDepth 100000 in
theorem ref_not_tru {a : Ob} {B c : Nat} {w : World} (ha : At10 w B 0 a) (ht : isTruB a = true) : Calls Tryd.prog 12 #[.string ⟨#[110, 111, 116]⟩, .slice (some ⟨B, 0, none⟩) 1 c] w fun e w' => RefO w (notO a) e w' := by
    obtain ⟨k1, x1⟩ := (isTru_iff a).1 ht
    have e0 : notO a = okO 3 (bits .xor .i64 a.n 1) := by unfold notO; rw [if_pos k1]; unfold bitO; rw [if_pos (.inl (by rw [ht]; decide)), k1]; rfl
    rw [e0]
    clear e0
    have hTa := refTru_at a
    rw [ht] at hTa
    clear k1 ht
    obtain ⟨a0, a1, a2, a3, a4, a5, a6, a7, a8, a9⟩ := ha
    simp only [Nat.zero_add] at *
    have hlt := World.block_lt_of_cell? w _ a0
    obtain ⟨ka, xa, ca, na, sa, ra, fa, la⟩ := a
    simp only at *
    rcases x1 with rfl | rfl
    · rw [show bits .xor .i64 0 1 = 1 by decide]
      have HT : ∀ W, Calls Tryd.prog 20 #[.bool true] W fun e w' => e = .returned (mk 3 1).vl ∧ Below W.heap.size W w' := fun W => refTruth_at true W
      have HO := fun W => refOne_at 3 1 W
      unfold mk Ob.vl at *
      simp only at *
      go_enter Tryd.func12, Tryd.ntmps12
      go_wp2_with fail
      refine (hTa _).mono ?_; rintro e w1 ⟨rfl, hb1⟩
      have p10 := rule hb1 (w.heap.size) (by simp <;> omega)
      have HB1 := Lib.hid (bthen (below1 _ _ ) hb1)
      have hz1 : w.heap.size < w1.heap.size := by have := hb1.size; simp at this; omega
      clear hb1
      go_wp2_with fail
      refine (HT _).mono ?_; rintro e w3 ⟨rfl, hb3⟩
      have HB3 := Lib.hid (bthen HB1.out hb3)
      clear hb3
      go_wp2_with fail
      refine (HO _).mono ?_; rintro e w4 ⟨bq, hbq, rfl, hro⟩
      have HRO := Lib.hid (hro.after HB3.out)
      clear hro
      go_wp2_with fail
      go_ret2
      exact HRO.out
    · rw [show bits .xor .i64 1 1 = 0 by decide]
      have HT : ∀ W, Calls Tryd.prog 20 #[.bool false] W fun e w' => e = .returned (mk 3 0).vl ∧ Below W.heap.size W w' := fun W => refTruth_at false W
      have HO := fun W => refOne_at 3 0 W
      unfold mk Ob.vl at *
      simp only at *
      go_enter Tryd.func12, Tryd.ntmps12
      go_wp2_with fail
      refine (hTa _).mono ?_; rintro e w1 ⟨rfl, hb1⟩
      have p10 := rule hb1 (w.heap.size) (by simp <;> omega)
      have HB1 := Lib.hid (bthen (below1 _ _ ) hb1)
      have hz1 : w.heap.size < w1.heap.size := by have := hb1.size; simp at this; omega
      clear hb1
      go_wp2_with fail
      refine (HT _).mono ?_; rintro e w3 ⟨rfl, hb3⟩
      have HB3 := Lib.hid (bthen HB1.out hb3)
      clear hb3
      go_wp2_with fail
      refine (HO _).mono ?_; rintro e w4 ⟨bq, hbq, rfl, hro⟩
      have HRO := Lib.hid (hro.after HB3.out)
      clear hro
      go_wp2_with fail
      go_ret2
      exact HRO.out
set_option maxHeartbeats 2000000 in
set_option maxRecDepth 100000 in
theorem ref_not_int {a : Ob} {B c : Nat} {w : World} (ha : At10 w B 0 a) (hn : isIntB a = true) : Calls Tryd.prog 12 #[.string ⟨#[110, 111, 116]⟩, .slice (some ⟨B, 0, none⟩) 1 c] w fun e w' => RefO w (notO a) e w' := by
    obtain ⟨k1, x1, x2⟩ := (isInt_iff a).1 hn
    have fa := (fits_iff a.n).2 ⟨x1, x2⟩
    have e0 : notO a = okO 1 (-1 - a.n) := by unfold notO; rw [if_neg (by omega)]; unfold bitO; rw [if_pos (.inr (by rw [hn]; decide)), k1]; show okO 1 (bits .xor .i64 a.n (-1)) = _; rw [xor_ones fa]
    rw [e0]
    clear e0
    have hTa := refTru_at a
    have hNa := refInt_at a
    rw [hn] at hNa
    have t1 : isTruB a = false := by
      cases h : isTruB a
      · rfl
      · have := ((isTru_iff a).1 h).1; omega
    rw [t1] at hTa
    have HW := fun W => refWhole_at (-1 - a.n) W
    have HO := fun W => refOne_at 1 (-1 - a.n) W
    clear hn t1 fa k1
    obtain ⟨a0, a1, a2, a3, a4, a5, a6, a7, a8, a9⟩ := ha
    simp only [Nat.zero_add] at *
    have hlt := World.block_lt_of_cell? w _ a0
    obtain ⟨ka, xa, ca, na, sa, ra, fa, la⟩ := a
    unfold mk Ob.vl at *
    simp only at *
    go_enter Tryd.func12, Tryd.ntmps12
    go_wp2_with fail
    refine (hTa _).mono ?_; rintro e w1 ⟨rfl, hb1⟩
    have p10 := rule hb1 (w.heap.size) (by simp <;> omega)
    have HB1 := Lib.hid (bthen (below1 _ _ ) hb1)
    have hz1 : w.heap.size < w1.heap.size := by have := hb1.size; simp at this; omega
    clear hb1
    go_wp2_with fail
    refine (hNa _).mono ?_; rintro e w2 ⟨rfl, hb2⟩
    have p20 := rule hb2 (w.heap.size) (by omega)
    have HB2 := Lib.hid (bthen HB1.out hb2)
    have hz2 : w.heap.size < w2.heap.size := by have := hb2.size; omega
    clear hb2
    go_wp2_with fail
    refine (HW _).mono ?_; rintro e w3 ⟨rfl, hb3⟩
    have HB3 := Lib.hid (bthen HB2.out hb3)
    clear hb3
    go_wp2_with fail
    refine (HO _).mono ?_; rintro e w4 ⟨bq, hbq, rfl, hro⟩
    have HRO := Lib.hid (hro.after HB3.out)
    clear hro
    go_wp2_with fail
    go_ret2
    exact HRO.out
set_option maxHeartbeats 2000000 in
set_option maxRecDepth 100000 in
theorem ref_not_no {a : Ob} {B c : Nat} {w : World} (ha : At10 w B 0 a) (ht : isTruB a = false) (hn : isIntB a = false) : Calls Tryd.prog 12 #[.string ⟨#[110, 111, 116]⟩, .slice (some ⟨B, 0, none⟩) 1 c] w fun e w' => RefO w (notO a) e w' := by
    have e0 : notO a = noO 16 := by unfold notO bitO; rw [if_neg (by rw [ht, hn]; simp)]
    rw [e0]
    clear e0
    have hTa := refTru_at a
    have hNa := refInt_at a
    rw [hn] at hNa
    rw [ht] at hTa
    clear ht hn
    obtain ⟨a0, a1, a2, a3, a4, a5, a6, a7, a8, a9⟩ := ha
    simp only [Nat.zero_add] at *
    have hlt := World.block_lt_of_cell? w _ a0
    obtain ⟨ka, xa, ca, na, sa, ra, fa, la⟩ := a
    unfold Ob.vl at *
    simp only at *
    go_enter Tryd.func12, Tryd.ntmps12
    go_wp2_with fail
    refine (hTa _).mono ?_; rintro e w1 ⟨rfl, hb1⟩
    have p10 := rule hb1 (w.heap.size) (by simp <;> omega)
    have HB1 := Lib.hid (bthen (below1 _ _ ) hb1)
    have hz1 : w.heap.size < w1.heap.size := by have := hb1.size; simp at this; omega
    clear hb1
    go_wp2_with fail
    refine (hNa _).mono ?_; rintro e w2 ⟨rfl, hb2⟩
    have p20 := rule hb2 (w.heap.size) (by omega)
    have HB2 := Lib.hid (bthen HB1.out hb2)
    have hz2 : w.heap.size < w2.heap.size := by have := hb2.size; omega
    clear hb2
    go_wp2_with fail
    go_ret2
    exact RefO.err (by decide) HB2.out
theorem ref_not {a : Ob} {B c : Nat} {w : World} (ha : At10 w B 0 a) : Calls Tryd.prog 12 #[.string ⟨#[110, 111, 116]⟩, .slice (some ⟨B, 0, none⟩) 1 c] w fun e w' => RefO w (notO a) e w' := by
  cases ht : isTruB a
  · cases hn : isIntB a
    · exact ref_not_no ha ht hn
    · exact ref_not_int ha hn
  · exact ref_not_tru ha ht
end Ari
end Go.Proofs.YtgbpldfcahajeaaDoor
