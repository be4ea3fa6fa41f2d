/-
  The document's own Arith: neg, abs (made by genref.py).
-/
import Derived.Test.YtgbpldfcahajeaaDoorAriRf
import Derived.Test.YtgbpldfcahajeaaDoorAriUnw
import Derived.Deep.RegionWith
namespace Go.Proofs.YtgbpldfcahajeaaDoor
open Go.RowKit
open Fx
namespace Ari
theorem neg_int {a : Ob} (hi : isIntB a = true) (hf : fits (-a.n) = true) : negO a = okO 1 (-a.n) := by
  unfold negO numO
  dsimp only
  have e : (mk 1 0).n - a.n = -a.n := by show (0 : Int) - a.n = -a.n; omega
  rw [if_pos ⟨by rw [hi]; decide, by rw [e]; exact hf⟩, e]
theorem neg_real {a : Ob} (hn : isNumB a = true) (h : ¬ (isIntB a = true ∧ fits (-a.n) = true)) : negO a = if asE a = 0 then madeO 2 (subV 0 (asV a)) (subE 0 (asV a)) else noO (asE a) := by
  unfold negO numO
  dsimp only
  have e : (mk 1 0).n - a.n = -a.n := by show (0 : Int) - a.n = -a.n; omega
  rw [if_neg (fun hh => h ⟨by have := hh.1; rw [Bool.and_eq_true] at this; exact this.2, by have := hh.2; rw [e] at this; exact this⟩)]
  unfold realsO
  have e1 : asE (mk 1 0) = 0 := by decide
  have e2 : asV (mk 1 0) = 0 := by decide
  rw [if_pos (by rw [hn]; decide), e1, if_pos rfl, e2]
theorem neg_none {a : Ob} (hn : isNumB a = false) : negO a = noO 16 := by
  unfold negO numO
  have hi : isIntB a = false := by
    cases h : isIntB a
    · rfl
    · rw [isInt_num h] at hn; cases hn
  rw [hi, if_neg (by simp)]
  unfold realsO
  rw [hn, if_neg (by simp)]
set_option maxHeartbeats 2000000 in
set_option maxRecDepth 100000 in
theorem un_neg_int (a : Ob) (hn : isNumB a = true) (hk : (a.kind == 1) = true) (hf : fits (-a.n) = true) (w : World) : Calls Tryd.prog 23 #[.string ⟨#[110, 101, 103]⟩, a.vl] w fun e w' => RefO w (negO a) e w' := by
    have hi : isIntB a = true := by rw [isInt_iff]; exact ⟨by simpa using hk, ((isNum_iff a).1 hn).2⟩
    rw [neg_int hi hf]
    obtain ⟨-, x1, x2⟩ := (isNum_iff a).1 hn
    have hS := fun W => refSmall_at (-a.n) W
    rw [hf] at hS
    have HS := Lib.hid hS
    have hW := fun W => refWhole_at (-a.n) W
    have hO := fun W => refOne_at 1 (-a.n) W
    clear hi hn hf hS
    obtain ⟨ka, xa, ca, na, sa, ra, fa, la⟩ := a
    unfold mk Ob.vl at *
    simp only at *
    go_enter Tryd.func23, Tryd.ntmps23
    go_wp2_with fail
    refine (HS.out _).mono ?_; rintro e w1 ⟨rfl, rfl⟩
    go_wp2_with fail
    refine (hW _).mono ?_; rintro e w1 ⟨rfl, hb1⟩
    have HB1 := Lib.hid (bthen (below1 _ _) hb1)
    clear hb1
    go_wp2_with fail
    refine (hO _).mono ?_; rintro e w2 ⟨bq, hbq, rfl, hro⟩
    have HRO := Lib.hid (hro.after HB1.out)
    clear hro
    go_wp2_with fail
    go_ret2
    exact HRO.out
set_option maxHeartbeats 2000000 in
set_option maxRecDepth 100000 in
theorem un_neg_t (a : Ob) (hn : isNumB a = true) (hk : (a.kind == 1) = true) (hf : fits (-a.n) = false) (w : World) : Calls Tryd.prog 23 #[.string ⟨#[110, 101, 103]⟩, a.vl] w fun e w' => RefO w (negO a) e w' := by
    rw [neg_real hn (fun h => by rw [hf] at h; cases h.2)]
    obtain ⟨-, x1, x2⟩ := (isNum_iff a).1 hn
    have hX := fun W => refAs_at a W hn
    have hS := fun W => refSmall_at (-a.n) W
    rw [hf] at hS
    have HS := Lib.hid hS
    clear hf hS
    clear hn
    have HV := Lib.hid (fun W => refSub_any 0 (asV a) W)
    generalize asV a = x at *
    generalize asE a = ea at *
    generalize subV 0 x = v at *
    generalize subE 0 x = u at *
    by_cases ha0 : ea = 0
    · subst ha0
      rw [if_pos rfl]
      by_cases hu : u = 0
      · subst hu
        have eM : madeO 2 v 0 = okO 2 v := rfl
        rw [eM]
        clear eM
        have HG := Lib.hid (fun W => refGives_ok v W)
        obtain ⟨ka, xa, ca, na, sa, ra, fa, la⟩ := a
        unfold Ob.vl at *
        simp only at *
        go_enter Tryd.func23, Tryd.ntmps23
        go_wp2_with fail
        refine (HS.out _).mono ?_; rintro e w0 ⟨rfl, rfl⟩
        go_wp2_with fail
        refine (hX _).mono ?_; rintro e w3 ⟨rfl, hb3⟩
        have HB3 := Lib.hid (bthen (below1 _ _) hb3)
        clear hb3
        go_wp2_with fail
        refine (HV.out _).mono ?_; rintro e w4 ⟨rfl, rfl⟩
        go_wp2_with fail
        refine (HG.out _).mono ?_; rintro e w4 ⟨bq, hbq, rfl, hro⟩
        have HRO := Lib.hid (hro.after HB3.out)
        clear hro
        go_wp2_with fail
        go_ret2
        exact HRO.out
      · have eM : madeO 2 v u = noO u := by unfold madeO; rw [if_neg hu]
        rw [eM]
        clear eM
        have HG := Lib.hid (fun W => refGives_no v u hu W)
        obtain ⟨ka, xa, ca, na, sa, ra, fa, la⟩ := a
        unfold Ob.vl at *
        simp only at *
        go_enter Tryd.func23, Tryd.ntmps23
        go_wp2_with fail
        refine (HS.out _).mono ?_; rintro e w0 ⟨rfl, rfl⟩
        go_wp2_with fail
        refine (hX _).mono ?_; rintro e w3 ⟨rfl, hb3⟩
        have HB3 := Lib.hid (bthen (below1 _ _) hb3)
        clear hb3
        go_wp2_with fail
        refine (HV.out _).mono ?_; rintro e w4 ⟨rfl, rfl⟩
        go_wp2_with fail
        refine (HG.out _).mono ?_; rintro e w6 ⟨rfl, rfl⟩
        go_wp2_with fail
        go_ret2
        exact RefO.err hu HB3.out
    · rw [if_neg ha0]
      have ha0' : (ea == 0) = false := by simpa using ha0
      have HZ := Lib.hid ha0
      clear ha0
      obtain ⟨ka, xa, ca, na, sa, ra, fa, la⟩ := a
      unfold Ob.vl at *
      simp only at *
      go_enter Tryd.func23, Tryd.ntmps23
      go_wp2_with fail
      refine (HS.out _).mono ?_; rintro e w0 ⟨rfl, rfl⟩
      go_wp2_with fail
      refine (hX _).mono ?_; rintro e w3 ⟨rfl, hb3⟩
      have HB3 := Lib.hid (bthen (below1 _ _) hb3)
      clear hb3
      go_wp2_with fail
      go_ret2
      exact RefO.err HZ.out HB3.out
set_option maxHeartbeats 2000000 in
set_option maxRecDepth 100000 in
theorem un_neg_f (a : Ob) (hn : isNumB a = true) (hk : (a.kind == 1) = false) (w : World) : Calls Tryd.prog 23 #[.string ⟨#[110, 101, 103]⟩, a.vl] w fun e w' => RefO w (negO a) e w' := by
    rw [neg_real hn (fun h => by have := ((isInt_iff a).1 h.1).1; simp [this] at hk)]
    obtain ⟨-, x1, x2⟩ := (isNum_iff a).1 hn
    have hX := fun W => refAs_at a W hn
    clear hn
    have HV := Lib.hid (fun W => refSub_any 0 (asV a) W)
    generalize asV a = x at *
    generalize asE a = ea at *
    generalize subV 0 x = v at *
    generalize subE 0 x = u at *
    by_cases ha0 : ea = 0
    · subst ha0
      rw [if_pos rfl]
      by_cases hu : u = 0
      · subst hu
        have eM : madeO 2 v 0 = okO 2 v := rfl
        rw [eM]
        clear eM
        have HG := Lib.hid (fun W => refGives_ok v W)
        obtain ⟨ka, xa, ca, na, sa, ra, fa, la⟩ := a
        unfold Ob.vl at *
        simp only at *
        go_enter Tryd.func23, Tryd.ntmps23
        go_wp2_with fail
        refine (hX _).mono ?_; rintro e w3 ⟨rfl, hb3⟩
        have HB3 := Lib.hid (bthen (below1 _ _) hb3)
        clear hb3
        go_wp2_with fail
        refine (HV.out _).mono ?_; rintro e w4 ⟨rfl, rfl⟩
        go_wp2_with fail
        refine (HG.out _).mono ?_; rintro e w4 ⟨bq, hbq, rfl, hro⟩
        have HRO := Lib.hid (hro.after HB3.out)
        clear hro
        go_wp2_with fail
        go_ret2
        exact HRO.out
      · have eM : madeO 2 v u = noO u := by unfold madeO; rw [if_neg hu]
        rw [eM]
        clear eM
        have HG := Lib.hid (fun W => refGives_no v u hu W)
        obtain ⟨ka, xa, ca, na, sa, ra, fa, la⟩ := a
        unfold Ob.vl at *
        simp only at *
        go_enter Tryd.func23, Tryd.ntmps23
        go_wp2_with fail
        refine (hX _).mono ?_; rintro e w3 ⟨rfl, hb3⟩
        have HB3 := Lib.hid (bthen (below1 _ _) hb3)
        clear hb3
        go_wp2_with fail
        refine (HV.out _).mono ?_; rintro e w4 ⟨rfl, rfl⟩
        go_wp2_with fail
        refine (HG.out _).mono ?_; rintro e w6 ⟨rfl, rfl⟩
        go_wp2_with fail
        go_ret2
        exact RefO.err hu HB3.out
    · rw [if_neg ha0]
      have ha0' : (ea == 0) = false := by simpa using ha0
      have HZ := Lib.hid ha0
      clear ha0
      obtain ⟨ka, xa, ca, na, sa, ra, fa, la⟩ := a
      unfold Ob.vl at *
      simp only at *
      go_enter Tryd.func23, Tryd.ntmps23
      go_wp2_with fail
      refine (hX _).mono ?_; rintro e w3 ⟨rfl, hb3⟩
      have HB3 := Lib.hid (bthen (below1 _ _) hb3)
      clear hb3
      go_wp2_with fail
      go_ret2
      exact RefO.err HZ.out HB3.out
theorem un_neg (a : Ob) (hn : isNumB a = true) (w : World) : Calls Tryd.prog 23 #[.string ⟨#[110, 101, 103]⟩, a.vl] w fun e w' => RefO w (negO a) e w' := by
  cases hk : (a.kind == 1)
  · exact un_neg_f a hn hk w
  · cases hf : fits (-a.n)
    · exact un_neg_t a hn hk hf w
    · exact un_neg_int a hn hk hf w
set_option maxHeartbeats 2000000 in
set_option maxRecDepth 100000 in
theorem ref_neg_no {a : Ob} {B c : Nat} {w : World} (ha : At10 w B 0 a) (hn : isNumB a = false) : Calls Tryd.prog 12 #[.string ⟨#[110, 101, 103]⟩, .slice (some ⟨B, 0, none⟩) 1 c] w fun e w' => RefO w (negO a) e w' := by
    have e0 : negO a = noO 16 := by exact neg_none hn
    rw [e0]
    clear e0
    have hNa := refNum_at a
    rw [hn] at hNa
    clear hn
    obtain ⟨a0, a1, a2, a3, a4, a5, a6, a7, a8, a9⟩ := ha
    simp only [Nat.zero_add] at *
    have hlt := World.block_lt_of_cell? w _ a0
    obtain ⟨ka, xa, ca, na, sa, ra, fa, la⟩ := a
    unfold Ob.vl at *
    simp only at *
    go_enter Tryd.func12, Tryd.ntmps12
    go_wp2_with fail
    refine (hNa _).mono ?_; rintro e w1 ⟨rfl, hb1⟩
    have p10 := rule hb1 (w.heap.size) (by simp <;> omega)
    have HB1 := Lib.hid (bthen (below1 _ _ ) hb1)
    have hz1 : w.heap.size < w1.heap.size := by have := hb1.size; simp at this; omega
    clear hb1
    go_wp2_with fail
    go_ret2
    exact RefO.err (by decide) HB1.out
set_option maxHeartbeats 2000000 in
set_option maxRecDepth 100000 in
theorem ref_neg_ok {a : Ob} {B c : Nat} {w : World} (ha : At10 w B 0 a) (hn : isNumB a = true) (hU : ∀ W, Calls Tryd.prog 23 #[.string ⟨#[110, 101, 103]⟩, a.vl] W fun e w' => RefO W (negO a) e w') (hz : (negO a).e = 0) : Calls Tryd.prog 12 #[.string ⟨#[110, 101, 103]⟩, .slice (some ⟨B, 0, none⟩) 1 c] w fun e w' => RefO w (negO a) e w' := by
    generalize negO a = r at *
    have HU := Lib.hid hU
    have HZ := Lib.hid hz
    have hNa := refNum_at a
    rw [hn] at hNa
    clear hn hU hz
    obtain ⟨a0, a1, a2, a3, a4, a5, a6, a7, a8, a9⟩ := ha
    simp only [Nat.zero_add] at *
    have hlt := World.block_lt_of_cell? w _ a0
    obtain ⟨ka, xa, ca, na, sa, ra, fa, la⟩ := a
    unfold Ob.vl at *
    simp only at *
    go_enter Tryd.func12, Tryd.ntmps12
    go_wp2_with fail
    refine (hNa _).mono ?_; rintro e w1 ⟨rfl, hb1⟩
    have p10 := rule hb1 (w.heap.size) (by simp <;> omega)
    have HB1 := Lib.hid (bthen (below1 _ _ ) hb1)
    have hz1 : w.heap.size < w1.heap.size := by have := hb1.size; simp at this; omega
    clear hb1
    go_wp2_with fail
    refine (HU.out _).mono ?_; rintro e w2 hro
    obtain ⟨bq, hbq, rfl, hcs⟩ := hro.ok HZ.out
    have HRO := Lib.hid (hro.after HB1.out)
    clear hro hcs hbq
    go_wp2_with fail
    go_ret2
    exact HRO.out
set_option maxHeartbeats 2000000 in
set_option maxRecDepth 100000 in
theorem ref_neg_er {a : Ob} {B c : Nat} {w : World} (ha : At10 w B 0 a) (hn : isNumB a = true) (hU : ∀ W, Calls Tryd.prog 23 #[.string ⟨#[110, 101, 103]⟩, a.vl] W fun e w' => RefO W (negO a) e w') (hz : (negO a).e ≠ 0) : Calls Tryd.prog 12 #[.string ⟨#[110, 101, 103]⟩, .slice (some ⟨B, 0, none⟩) 1 c] w fun e w' => RefO w (negO a) e w' := by
    generalize negO a = r at *
    have HU := Lib.hid hU
    have HZ := Lib.hid hz
    have hNa := refNum_at a
    rw [hn] at hNa
    clear hn hU hz
    obtain ⟨a0, a1, a2, a3, a4, a5, a6, a7, a8, a9⟩ := ha
    simp only [Nat.zero_add] at *
    have hlt := World.block_lt_of_cell? w _ a0
    obtain ⟨ka, xa, ca, na, sa, ra, fa, la⟩ := a
    unfold Ob.vl at *
    simp only at *
    go_enter Tryd.func12, Tryd.ntmps12
    go_wp2_with fail
    refine (hNa _).mono ?_; rintro e w1 ⟨rfl, hb1⟩
    have p10 := rule hb1 (w.heap.size) (by simp <;> omega)
    have HB1 := Lib.hid (bthen (below1 _ _ ) hb1)
    have hz1 : w.heap.size < w1.heap.size := by have := hb1.size; simp at this; omega
    clear hb1
    go_wp2_with fail
    refine (HU.out _).mono ?_; rintro e w2 hro
    obtain rfl := hro.no HZ.out
    have HRO := Lib.hid (hro.after HB1.out)
    clear hro
    go_wp2_with fail
    go_ret2
    exact HRO.out
theorem ref_neg {a : Ob} {B c : Nat} {w : World} (ha : At10 w B 0 a) : Calls Tryd.prog 12 #[.string ⟨#[110, 101, 103]⟩, .slice (some ⟨B, 0, none⟩) 1 c] w fun e w' => RefO w (negO a) e w' := by
  cases hn : isNumB a
  · exact ref_neg_no ha hn
  · by_cases hz : (negO a).e = 0
    · exact ref_neg_ok ha hn (fun W => un_neg a hn W) hz
    · exact ref_neg_er ha hn (fun W => un_neg a hn W) hz
set_option maxHeartbeats 2000000 in
set_option maxRecDepth 100000 in
theorem un_abs_int (a : Ob) (hn : isNumB a = true) (hs : a.n < 0) (hk : (a.kind == 1) = true) (hf : fits (-a.n) = true) (w : World) : Calls Tryd.prog 23 #[.string ⟨#[97, 98, 115]⟩, a.vl] w fun e w' => RefO w (negO a) e w' := by
    have hi : isIntB a = true := by rw [isInt_iff]; exact ⟨by simpa using hk, ((isNum_iff a).1 hn).2⟩
    rw [neg_int hi hf]
    obtain ⟨-, x1, x2⟩ := (isNum_iff a).1 hn
    have hS := fun W => refSmall_at (-a.n) W
    rw [hf] at hS
    have HS := Lib.hid hS
    have hW := fun W => refWhole_at (-a.n) W
    have hO := fun W => refOne_at 1 (-a.n) W
    clear hi hn hf hS
    obtain ⟨ka, xa, ca, na, sa, ra, fa, la⟩ := a
    unfold mk Ob.vl at *
    simp only at *
    go_enter Tryd.func23, Tryd.ntmps23
    go_wp2_with fail
    refine (HS.out _).mono ?_; rintro e w1 ⟨rfl, rfl⟩
    go_wp2_with fail
    refine (hW _).mono ?_; rintro e w1 ⟨rfl, hb1⟩
    have HB1 := Lib.hid (bthen (below1 _ _) hb1)
    clear hb1
    go_wp2_with fail
    refine (hO _).mono ?_; rintro e w2 ⟨bq, hbq, rfl, hro⟩
    have HRO := Lib.hid (hro.after HB1.out)
    clear hro
    go_wp2_with fail
    go_ret2
    exact HRO.out
set_option maxHeartbeats 2000000 in
set_option maxRecDepth 100000 in
theorem un_abs_t (a : Ob) (hn : isNumB a = true) (hs : a.n < 0) (hk : (a.kind == 1) = true) (hf : fits (-a.n) = false) (w : World) : Calls Tryd.prog 23 #[.string ⟨#[97, 98, 115]⟩, a.vl] w fun e w' => RefO w (negO a) e w' := by
    rw [neg_real hn (fun h => by rw [hf] at h; cases h.2)]
    obtain ⟨-, x1, x2⟩ := (isNum_iff a).1 hn
    have hX := fun W => refAs_at a W hn
    have hS := fun W => refSmall_at (-a.n) W
    rw [hf] at hS
    have HS := Lib.hid hS
    clear hf hS
    clear hn
    have HV := Lib.hid (fun W => refSub_any 0 (asV a) W)
    generalize asV a = x at *
    generalize asE a = ea at *
    generalize subV 0 x = v at *
    generalize subE 0 x = u at *
    by_cases ha0 : ea = 0
    · subst ha0
      rw [if_pos rfl]
      by_cases hu : u = 0
      · subst hu
        have eM : madeO 2 v 0 = okO 2 v := rfl
        rw [eM]
        clear eM
        have HG := Lib.hid (fun W => refGives_ok v W)
        obtain ⟨ka, xa, ca, na, sa, ra, fa, la⟩ := a
        unfold Ob.vl at *
        simp only at *
        go_enter Tryd.func23, Tryd.ntmps23
        go_wp2_with fail
        refine (HS.out _).mono ?_; rintro e w0 ⟨rfl, rfl⟩
        go_wp2_with fail
        refine (hX _).mono ?_; rintro e w3 ⟨rfl, hb3⟩
        have HB3 := Lib.hid (bthen (below1 _ _) hb3)
        clear hb3
        go_wp2_with fail
        refine (HV.out _).mono ?_; rintro e w4 ⟨rfl, rfl⟩
        go_wp2_with fail
        refine (HG.out _).mono ?_; rintro e w4 ⟨bq, hbq, rfl, hro⟩
        have HRO := Lib.hid (hro.after HB3.out)
        clear hro
        go_wp2_with fail
        go_ret2
        exact HRO.out
      · have eM : madeO 2 v u = noO u := by unfold madeO; rw [if_neg hu]
        rw [eM]
        clear eM
        have HG := Lib.hid (fun W => refGives_no v u hu W)
        obtain ⟨ka, xa, ca, na, sa, ra, fa, la⟩ := a
        unfold Ob.vl at *
        simp only at *
        go_enter Tryd.func23, Tryd.ntmps23
        go_wp2_with fail
        refine (HS.out _).mono ?_; rintro e w0 ⟨rfl, rfl⟩
        go_wp2_with fail
        refine (hX _).mono ?_; rintro e w3 ⟨rfl, hb3⟩
        have HB3 := Lib.hid (bthen (below1 _ _) hb3)
        clear hb3
        go_wp2_with fail
        refine (HV.out _).mono ?_; rintro e w4 ⟨rfl, rfl⟩
        go_wp2_with fail
        refine (HG.out _).mono ?_; rintro e w6 ⟨rfl, rfl⟩
        go_wp2_with fail
        go_ret2
        exact RefO.err hu HB3.out
    · rw [if_neg ha0]
      have ha0' : (ea == 0) = false := by simpa using ha0
      have HZ := Lib.hid ha0
      clear ha0
      obtain ⟨ka, xa, ca, na, sa, ra, fa, la⟩ := a
      unfold Ob.vl at *
      simp only at *
      go_enter Tryd.func23, Tryd.ntmps23
      go_wp2_with fail
      refine (HS.out _).mono ?_; rintro e w0 ⟨rfl, rfl⟩
      go_wp2_with fail
      refine (hX _).mono ?_; rintro e w3 ⟨rfl, hb3⟩
      have HB3 := Lib.hid (bthen (below1 _ _) hb3)
      clear hb3
      go_wp2_with fail
      go_ret2
      exact RefO.err HZ.out HB3.out
set_option maxHeartbeats 2000000 in
set_option maxRecDepth 100000 in
theorem un_abs_f (a : Ob) (hn : isNumB a = true) (hs : a.n < 0) (hk : (a.kind == 1) = false) (w : World) : Calls Tryd.prog 23 #[.string ⟨#[97, 98, 115]⟩, a.vl] w fun e w' => RefO w (negO a) e w' := by
    rw [neg_real hn (fun h => by have := ((isInt_iff a).1 h.1).1; simp [this] at hk)]
    obtain ⟨-, x1, x2⟩ := (isNum_iff a).1 hn
    have hX := fun W => refAs_at a W hn
    clear hn
    have HV := Lib.hid (fun W => refSub_any 0 (asV a) W)
    generalize asV a = x at *
    generalize asE a = ea at *
    generalize subV 0 x = v at *
    generalize subE 0 x = u at *
    by_cases ha0 : ea = 0
    · subst ha0
      rw [if_pos rfl]
      by_cases hu : u = 0
      · subst hu
        have eM : madeO 2 v 0 = okO 2 v := rfl
        rw [eM]
        clear eM
        have HG := Lib.hid (fun W => refGives_ok v W)
        obtain ⟨ka, xa, ca, na, sa, ra, fa, la⟩ := a
        unfold Ob.vl at *
        simp only at *
        go_enter Tryd.func23, Tryd.ntmps23
        go_wp2_with fail
        refine (hX _).mono ?_; rintro e w3 ⟨rfl, hb3⟩
        have HB3 := Lib.hid (bthen (below1 _ _) hb3)
        clear hb3
        go_wp2_with fail
        refine (HV.out _).mono ?_; rintro e w4 ⟨rfl, rfl⟩
        go_wp2_with fail
        refine (HG.out _).mono ?_; rintro e w4 ⟨bq, hbq, rfl, hro⟩
        have HRO := Lib.hid (hro.after HB3.out)
        clear hro
        go_wp2_with fail
        go_ret2
        exact HRO.out
      · have eM : madeO 2 v u = noO u := by unfold madeO; rw [if_neg hu]
        rw [eM]
        clear eM
        have HG := Lib.hid (fun W => refGives_no v u hu W)
        obtain ⟨ka, xa, ca, na, sa, ra, fa, la⟩ := a
        unfold Ob.vl at *
        simp only at *
        go_enter Tryd.func23, Tryd.ntmps23
        go_wp2_with fail
        refine (hX _).mono ?_; rintro e w3 ⟨rfl, hb3⟩
        have HB3 := Lib.hid (bthen (below1 _ _) hb3)
        clear hb3
        go_wp2_with fail
        refine (HV.out _).mono ?_; rintro e w4 ⟨rfl, rfl⟩
        go_wp2_with fail
        refine (HG.out _).mono ?_; rintro e w6 ⟨rfl, rfl⟩
        go_wp2_with fail
        go_ret2
        exact RefO.err hu HB3.out
    · rw [if_neg ha0]
      have ha0' : (ea == 0) = false := by simpa using ha0
      have HZ := Lib.hid ha0
      clear ha0
      obtain ⟨ka, xa, ca, na, sa, ra, fa, la⟩ := a
      unfold Ob.vl at *
      simp only at *
      go_enter Tryd.func23, Tryd.ntmps23
      go_wp2_with fail
      refine (hX _).mono ?_; rintro e w3 ⟨rfl, hb3⟩
      have HB3 := Lib.hid (bthen (below1 _ _) hb3)
      clear hb3
      go_wp2_with fail
      go_ret2
      exact RefO.err HZ.out HB3.out
set_option maxHeartbeats 2000000 in
set_option maxRecDepth 100000 in
theorem un_abs_pos (a : Ob) (hs : 0 ≤ a.n) (w : World) : Calls Tryd.prog 23 #[.string ⟨#[97, 98, 115]⟩, a.vl] w fun e w' => RefO w (okO a.kind a.n) e w' := by
    have hO := fun W => refOne_at a.kind a.n W
    obtain ⟨ka, xa, ca, na, sa, ra, fa, la⟩ := a
    unfold mk Ob.vl at *
    simp only at *
    go_enter Tryd.func23, Tryd.ntmps23
    go_wp2_with fail
    have HB0 := Lib.hid (below1 w (.cells #[.int .i64 ka, .bool xa, .int .i64 ca, .int .i64 na, .string sa, .pointer none, .pointer none, .pointer none, .int .i64 0, .int .i64 0] 35))
    refine (hO _).mono ?_; rintro e w2 ⟨bq, hbq, rfl, hro⟩
    have HRO := Lib.hid (hro.after HB0.out)
    clear hro
    go_wp2_with fail
    go_ret2
    exact HRO.out
theorem un_abs (a : Ob) (hn : isNumB a = true) (w : World) : Calls Tryd.prog 23 #[.string ⟨#[97, 98, 115]⟩, a.vl] w fun e w' => RefO w (absO a) e w' := by
  unfold absO
  by_cases hs : 0 ≤ a.n
  · rw [if_pos ⟨hn, hs⟩]; exact un_abs_pos a hs w
  · rw [if_neg (fun h => hs h.2)]
    have hs : a.n < 0 := by omega
    cases hk : (a.kind == 1)
    · exact un_abs_f a hn hs hk w
    · cases hf : fits (-a.n)
      · exact un_abs_t a hn hs hk hf w
      · exact un_abs_int a hn hs hk hf w
set_option maxHeartbeats 2000000 in
set_option maxRecDepth 100000 in
theorem ref_abs_no {a : Ob} {B c : Nat} {w : World} (ha : At10 w B 0 a) (hn : isNumB a = false) : Calls Tryd.prog 12 #[.string ⟨#[97, 98, 115]⟩, .slice (some ⟨B, 0, none⟩) 1 c] w fun e w' => RefO w (absO a) e w' := by
    have e0 : absO a = noO 16 := by unfold absO; rw [if_neg (fun h => by rw [hn] at h; cases h.1)]; exact neg_none hn
    rw [e0]
    clear e0
    have hNa := refNum_at a
    rw [hn] at hNa
    clear hn
    obtain ⟨a0, a1, a2, a3, a4, a5, a6, a7, a8, a9⟩ := ha
    simp only [Nat.zero_add] at *
    have hlt := World.block_lt_of_cell? w _ a0
    obtain ⟨ka, xa, ca, na, sa, ra, fa, la⟩ := a
    unfold Ob.vl at *
    simp only at *
    go_enter Tryd.func12, Tryd.ntmps12
    go_wp2_with fail
    refine (hNa _).mono ?_; rintro e w1 ⟨rfl, hb1⟩
    have p10 := rule hb1 (w.heap.size) (by simp <;> omega)
    have HB1 := Lib.hid (bthen (below1 _ _ ) hb1)
    have hz1 : w.heap.size < w1.heap.size := by have := hb1.size; simp at this; omega
    clear hb1
    go_wp2_with fail
    go_ret2
    exact RefO.err (by decide) HB1.out
set_option maxHeartbeats 2000000 in
set_option maxRecDepth 100000 in
theorem ref_abs_ok {a : Ob} {B c : Nat} {w : World} (ha : At10 w B 0 a) (hn : isNumB a = true) (hU : ∀ W, Calls Tryd.prog 23 #[.string ⟨#[97, 98, 115]⟩, a.vl] W fun e w' => RefO W (absO a) e w') (hz : (absO a).e = 0) : Calls Tryd.prog 12 #[.string ⟨#[97, 98, 115]⟩, .slice (some ⟨B, 0, none⟩) 1 c] w fun e w' => RefO w (absO a) e w' := by
    generalize absO a = r at *
    have HU := Lib.hid hU
    have HZ := Lib.hid hz
    have hNa := refNum_at a
    rw [hn] at hNa
    clear hn hU hz
    obtain ⟨a0, a1, a2, a3, a4, a5, a6, a7, a8, a9⟩ := ha
    simp only [Nat.zero_add] at *
    have hlt := World.block_lt_of_cell? w _ a0
    obtain ⟨ka, xa, ca, na, sa, ra, fa, la⟩ := a
    unfold Ob.vl at *
    simp only at *
    go_enter Tryd.func12, Tryd.ntmps12
    go_wp2_with fail
    refine (hNa _).mono ?_; rintro e w1 ⟨rfl, hb1⟩
    have p10 := rule hb1 (w.heap.size) (by simp <;> omega)
    have HB1 := Lib.hid (bthen (below1 _ _ ) hb1)
    have hz1 : w.heap.size < w1.heap.size := by have := hb1.size; simp at this; omega
    clear hb1
    go_wp2_with fail
    refine (HU.out _).mono ?_; rintro e w2 hro
    obtain ⟨bq, hbq, rfl, hcs⟩ := hro.ok HZ.out
    have HRO := Lib.hid (hro.after HB1.out)
    clear hro hcs hbq
    go_wp2_with fail
    go_ret2
    exact HRO.out
set_option maxHeartbeats 2000000 in
set_option maxRecDepth 100000 in
theorem ref_abs_er {a : Ob} {B c : Nat} {w : World} (ha : At10 w B 0 a) (hn : isNumB a = true) (hU : ∀ W, Calls Tryd.prog 23 #[.string ⟨#[97, 98, 115]⟩, a.vl] W fun e w' => RefO W (absO a) e w') (hz : (absO a).e ≠ 0) : Calls Tryd.prog 12 #[.string ⟨#[97, 98, 115]⟩, .slice (some ⟨B, 0, none⟩) 1 c] w fun e w' => RefO w (absO a) e w' := by
    generalize absO a = r at *
    have HU := Lib.hid hU
    have HZ := Lib.hid hz
    have hNa := refNum_at a
    rw [hn] at hNa
    clear hn hU hz
    obtain ⟨a0, a1, a2, a3, a4, a5, a6, a7, a8, a9⟩ := ha
    simp only [Nat.zero_add] at *
    have hlt := World.block_lt_of_cell? w _ a0
    obtain ⟨ka, xa, ca, na, sa, ra, fa, la⟩ := a
    unfold Ob.vl at *
    simp only at *
    go_enter Tryd.func12, Tryd.ntmps12
    go_wp2_with fail
    refine (hNa _).mono ?_; rintro e w1 ⟨rfl, hb1⟩
    have p10 := rule hb1 (w.heap.size) (by simp <;> omega)
    have HB1 := Lib.hid (bthen (below1 _ _ ) hb1)
    have hz1 : w.heap.size < w1.heap.size := by have := hb1.size; simp at this; omega
    clear hb1
    go_wp2_with fail
    refine (HU.out _).mono ?_; rintro e w2 hro
    obtain rfl := hro.no HZ.out
    have HRO := Lib.hid (hro.after HB1.out)
    clear hro
    go_wp2_with fail
    go_ret2
    exact HRO.out
theorem ref_abs {a : Ob} {B c : Nat} {w : World} (ha : At10 w B 0 a) : Calls Tryd.prog 12 #[.string ⟨#[97, 98, 115]⟩, .slice (some ⟨B, 0, none⟩) 1 c] w fun e w' => RefO w (absO a) e w' := by
  cases hn : isNumB a
  · exact ref_abs_no ha hn
  · by_cases hz : (absO a).e = 0
    · exact ref_abs_ok ha hn (fun W => un_abs a hn W) hz
    · exact ref_abs_er ha hn (fun W => un_abs a hn W) hz
end Ari
end Go.Proofs.YtgbpldfcahajeaaDoor
