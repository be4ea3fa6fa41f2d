/-
  The document's own Arith: add (made by genref.py).
  The document's own Arith: sub (made by genref.py).
  The document's own Arith: mul (made by genref.py).
  The document's own Arith: div (made by genref.py).
-/
import Derived.Test.YtgbpldfcahajeaaDoorAriRf
import Derived.Deep.RegionWith
namespace Go.Proofs.YtgbpldfcahajeaaDoor
open Go.RowKit
open Fx
namespace Ari
set_option maxHeartbeats 2000000 in
set_option maxRecDepth 100000 in
theorem ref_add_no {a b : Ob} {B c : Nat} {w : World} (ha : At10 w B 0 a) (hb : At10 w B 10 b) (hn : (isNumB a && isNumB b) = false) : Calls Tryd.prog 12 #[.string ⟨#[97, 100, 100]⟩, .slice (some ⟨B, 0, none⟩) 2 c] w fun e w' => RefO w (numO (fun x y => x + y) addV addE a b) e w' := by
    have hi : (isIntB a && isIntB b) = false := by cases h1 : isIntB a <;> cases h2 : isIntB b <;> simp_all [isInt_num]
    have e0 : numO (fun x y => x + y) addV addE a b = noO 16 := by unfold numO; rw [hi, if_neg (by simp)]; unfold realsO; rw [hn]; rfl
    rw [e0]
    clear e0 hi
    have hNa := refNum_at a
    have hNb := refNum_at b
    obtain ⟨a0, a1, a2, a3, a4, a5, a6, a7, a8, a9⟩ := ha
    obtain ⟨b0, b1, b2, b3, b4, b5, b6, b7, b8, b9⟩ := hb
    simp only [Nat.zero_add, Nat.reduceAdd] at *
    have hlt := World.block_lt_of_cell? w _ a0
    cases h1 : isNumB a
    · rw [h1] at hNa
      clear h1 hn hNb
      obtain ⟨ka, xa, ca, na, sa, ra, fa, la⟩ := a
      obtain ⟨kb, xb, cb, nb, sb, rb, fb, lb⟩ := b
      unfold Ob.vl at *
      simp only at *
      go_enter Tryd.func12, Tryd.ntmps12
      go_wp2_with fail
      refine (hNa _).mono ?_; rintro e w1 ⟨rfl, hb1⟩
      have p10 := rule hb1 (w.heap.size) (by simp <;> omega)
      have p11 := rule hb1 (w.heap.size + 1) (by simp <;> omega)
      have HB1 := Lib.hid (bthen (below2 _ _ _ ) hb1)
      have hz1 : w.heap.size + 1 < w1.heap.size := by have := hb1.size; simp at this; omega
      clear hb1
      go_wp2_with fail
      go_ret2
      exact RefO.err (by decide) HB1.out
    · have h2 : isNumB b = false := by rw [h1] at hn; simpa using hn
      rw [h1] at hNa
      rw [h2] at hNb
      clear h1 h2 hn
      obtain ⟨ka, xa, ca, na, sa, ra, fa, la⟩ := a
      obtain ⟨kb, xb, cb, nb, sb, rb, fb, lb⟩ := b
      unfold Ob.vl at *
      simp only at *
      go_enter Tryd.func12, Tryd.ntmps12
      go_wp2_with fail
      refine (hNa _).mono ?_; rintro e w1 ⟨rfl, hb1⟩
      have p10 := rule hb1 (w.heap.size) (by simp <;> omega)
      have p11 := rule hb1 (w.heap.size + 1) (by simp <;> omega)
      have HB1 := Lib.hid (bthen (below2 _ _ _ ) hb1)
      have hz1 : w.heap.size + 1 < w1.heap.size := by have := hb1.size; simp at this; omega
      clear hb1
      go_wp2_with fail
      refine (hNb _).mono ?_; rintro e w2 ⟨rfl, hb2⟩
      have p20 := rule hb2 (w.heap.size) (by omega)
      have p21 := rule hb2 (w.heap.size + 1) (by omega)
      have HB2 := Lib.hid (bthen HB1.out hb2)
      have hz2 : w.heap.size + 1 < w2.heap.size := by have := hb2.size; omega
      clear hb2
      go_wp2_with fail
      go_ret2
      exact RefO.err (by decide) HB2.out
set_option maxHeartbeats 2000000 in
set_option maxRecDepth 100000 in
theorem ref_add_int {a b : Ob} {B c : Nat} {w : World} (ha : At10 w B 0 a) (hb : At10 w B 10 b) (hi : (isIntB a && isIntB b) = true) (hf : fits (a.n + b.n) = true) : Calls Tryd.prog 12 #[.string ⟨#[97, 100, 100]⟩, .slice (some ⟨B, 0, none⟩) 2 c] w fun e w' => RefO w (numO (fun x y => x + y) addV addE a b) e w' := by
    have e0 : numO (fun x y => x + y) addV addE a b = okO 1 (a.n + b.n) := by unfold numO; rw [if_pos ⟨hi, hf⟩]
    rw [e0]
    clear e0
    have hka : (a.kind == 1) = true := by rw [Bool.and_eq_true] at hi; have := ((isInt_iff a).1 hi.1).1; simp [this]
    have hkb : (b.kind == 1) = true := by rw [Bool.and_eq_true] at hi; have := ((isInt_iff b).1 hi.2).1; simp [this]
    have hn : (isNumB a && isNumB b) = true := by rw [Bool.and_eq_true] at hi ⊢; exact ⟨isInt_num hi.1, isInt_num hi.2⟩
    clear hi
    rw [Bool.and_eq_true] at hn
    have hNa := refNum_at a
    have hNb := refNum_at b
    rw [hn.1] at hNa
    rw [hn.2] at hNb
    have h1 := hn.1
    have h2 := hn.2
    obtain ⟨-, x1, x2⟩ := (isNum_iff a).1 h1
    obtain ⟨-, y1, y2⟩ := (isNum_iff b).1 h2
    have hS := fun W => refSmall_at (a.n + b.n) W
    rw [hf] at hS
    have HS := Lib.hid hS
    have HW := Lib.hid (fun W => refWhole_at (a.n + b.n) W)
    have HO := Lib.hid (fun W => refOne_at 1 (a.n + b.n) W)
    clear hn h1 h2 hf hS
    obtain ⟨a0, a1, a2, a3, a4, a5, a6, a7, a8, a9⟩ := ha
    obtain ⟨b0, b1, b2, b3, b4, b5, b6, b7, b8, b9⟩ := hb
    simp only [Nat.zero_add, Nat.reduceAdd] at *
    have hlt := World.block_lt_of_cell? w _ a0
    obtain ⟨ka, xa, ca, na, sa, ra, fa, la⟩ := a
    obtain ⟨kb, xb, cb, nb, sb, rb, fb, lb⟩ := b
    unfold mk Ob.vl at *
    simp only at *
    go_enter Tryd.func12, Tryd.ntmps12
    go_wp2_with fail
    refine (hNa _).mono ?_; rintro e w1 ⟨rfl, hb1⟩
    have p10 := rule hb1 (w.heap.size) (by simp <;> omega)
    have p11 := rule hb1 (w.heap.size + 1) (by simp <;> omega)
    have HB1 := Lib.hid (bthen (below2 _ _ _ ) hb1)
    have hz1 : w.heap.size + 1 < w1.heap.size := by have := hb1.size; simp at this; omega
    clear hb1
    go_wp2_with fail
    refine (hNb _).mono ?_; rintro e w2 ⟨rfl, hb2⟩
    have p20 := rule hb2 (w.heap.size) (by omega)
    have p21 := rule hb2 (w.heap.size + 1) (by omega)
    have HB2 := Lib.hid (bthen HB1.out hb2)
    have hz2 : w.heap.size + 1 < w2.heap.size := by have := hb2.size; omega
    clear hb2
    go_wp2_with fail
    refine (HS.out _).mono ?_; rintro e w3 ⟨rfl, rfl⟩
    go_wp2_with fail
    refine (HW.out _).mono ?_; rintro e w3 ⟨rfl, hb3⟩
    have HB3 := Lib.hid (bthen HB2.out hb3)
    clear hb3
    go_wp2_with fail
    refine (HO.out _).mono ?_; rintro e w4 ⟨bq, hbq, rfl, hro⟩
    have HRO := Lib.hid (hro.after HB3.out)
    clear hro
    go_wp2_with fail
    go_ret2
    exact HRO.out
set_option maxHeartbeats 4000000 in
set_option maxRecDepth 100000 in
theorem ref_add_tt {a b : Ob} {B c : Nat} {w : World} (ha : At10 w B 0 a) (hb : At10 w B 10 b) (hn : (isNumB a && isNumB b) = true) (hka : (a.kind == 1) = true) (hkb : (b.kind == 1) = true) (hf : fits (a.n + b.n) = false) : Calls Tryd.prog 12 #[.string ⟨#[97, 100, 100]⟩, .slice (some ⟨B, 0, none⟩) 2 c] w fun e w' => RefO w (numO (fun x y => x + y) addV addE a b) e w' := by
    have e0 : numO (fun x y => x + y) addV addE a b = (if asE a = 0 then (if asE b = 0 then madeO 2 (addV (asV a) (asV b)) (addE (asV a) (asV b)) else noO (asE b)) else noO (asE a)) := by unfold numO; rw [if_neg (fun h => by rw [hf] at h; cases h.2)]; unfold realsO; rw [if_pos hn]
    rw [e0]
    clear e0
    rw [Bool.and_eq_true] at hn
    have hNa := refNum_at a
    have hNb := refNum_at b
    rw [hn.1] at hNa
    rw [hn.2] at hNb
    have h1 := hn.1
    have h2 := hn.2
    obtain ⟨-, x1, x2⟩ := (isNum_iff a).1 h1
    obtain ⟨-, y1, y2⟩ := (isNum_iff b).1 h2
    have hS := fun W => refSmall_at (a.n + b.n) W
    rw [hf] at hS
    have HS := Lib.hid hS
    clear hf hS
    have hX := fun W => refAs_at a W h1
    have hY := fun W => refAs_at b W h2
    clear hn h1 h2
    have HV := Lib.hid (fun W => refAdd_any (asV a) (asV b) W)
    generalize asV a = x at *
    generalize asV b = y at *
    generalize asE a = ea at *
    generalize asE b = eb at *
    generalize addV x y = v at *
    generalize addE x y = u at *
    obtain ⟨a0, a1, a2, a3, a4, a5, a6, a7, a8, a9⟩ := ha
    obtain ⟨b0, b1, b2, b3, b4, b5, b6, b7, b8, b9⟩ := hb
    simp only [Nat.zero_add, Nat.reduceAdd] at *
    have hlt := World.block_lt_of_cell? w _ a0
    by_cases ha0 : ea = 0
    · subst ha0
      rw [if_pos rfl]
      by_cases hb0 : eb = 0
      · subst hb0
        rw [if_pos rfl]
        by_cases hu : u = 0
        · subst hu
          have eM : madeO 2 v 0 = okO 2 v := rfl
          rw [eM]
          clear eM
          have HG := Lib.hid (fun W => refGives_ok v W)
          obtain ⟨ka, xa, ca, na, sa, ra, fa, la⟩ := a
          obtain ⟨kb, xb, cb, nb, sb, rb, fb, lb⟩ := b
          unfold Ob.vl at *
          simp only at *
          go_enter Tryd.func12, Tryd.ntmps12
          go_wp2_with fail
          refine (hNa _).mono ?_; rintro e w1 ⟨rfl, hb1⟩
          have p10 := rule hb1 (w.heap.size) (by simp <;> omega)
          have p11 := rule hb1 (w.heap.size + 1) (by simp <;> omega)
          have HB1 := Lib.hid (bthen (below2 _ _ _ ) hb1)
          have hz1 : w.heap.size + 1 < w1.heap.size := by have := hb1.size; simp at this; omega
          clear hb1
          go_wp2_with fail
          refine (hNb _).mono ?_; rintro e w2 ⟨rfl, hb2⟩
          have p20 := rule hb2 (w.heap.size) (by omega)
          have p21 := rule hb2 (w.heap.size + 1) (by omega)
          have HB2 := Lib.hid (bthen HB1.out hb2)
          have hz2 : w.heap.size + 1 < w2.heap.size := by have := hb2.size; omega
          clear hb2
          go_wp2_with fail
          refine (HS.out _).mono ?_; rintro e w3 ⟨rfl, rfl⟩
          go_wp2_with fail
          refine (hX _).mono ?_; rintro e w3 ⟨rfl, hb3⟩
          have p30 := rule hb3 (w.heap.size) (by omega)
          have p31 := rule hb3 (w.heap.size + 1) (by omega)
          have HB3 := Lib.hid (bthen HB2.out hb3)
          have hz3 : w.heap.size + 1 < w3.heap.size := by have := hb3.size; omega
          clear hb3
          go_wp2_with fail
          refine (hY _).mono ?_; rintro e w4 ⟨rfl, hb4⟩
          have p40 := rule hb4 (w.heap.size) (by omega)
          have p41 := rule hb4 (w.heap.size + 1) (by omega)
          have HB4 := Lib.hid (bthen HB3.out hb4)
          have hz4 : w.heap.size + 1 < w4.heap.size := by have := hb4.size; omega
          clear hb4
          go_wp2_with fail
          refine (HV.out _).mono ?_; rintro e w5 ⟨rfl, rfl⟩
          have HB5 := Lib.hid HB4.out
          go_wp2_with fail
          refine (HG.out _).mono ?_; rintro e w6 ⟨bq, hbq, rfl, hro⟩
          have HRO := Lib.hid (hro.after HB5.out)
          clear hro
          go_wp2_with fail
          go_ret2
          exact HRO.out
        · have eM : madeO 2 v u = noO u := by unfold madeO; rw [if_neg hu]
          rw [eM]
          clear eM
          have HG := Lib.hid (fun W => refGives_no v u hu W)
          obtain ⟨ka, xa, ca, na, sa, ra, fa, la⟩ := a
          obtain ⟨kb, xb, cb, nb, sb, rb, fb, lb⟩ := b
          unfold Ob.vl at *
          simp only at *
          go_enter Tryd.func12, Tryd.ntmps12
          go_wp2_with fail
          refine (hNa _).mono ?_; rintro e w1 ⟨rfl, hb1⟩
          have p10 := rule hb1 (w.heap.size) (by simp <;> omega)
          have p11 := rule hb1 (w.heap.size + 1) (by simp <;> omega)
          have HB1 := Lib.hid (bthen (below2 _ _ _ ) hb1)
          have hz1 : w.heap.size + 1 < w1.heap.size := by have := hb1.size; simp at this; omega
          clear hb1
          go_wp2_with fail
          refine (hNb _).mono ?_; rintro e w2 ⟨rfl, hb2⟩
          have p20 := rule hb2 (w.heap.size) (by omega)
          have p21 := rule hb2 (w.heap.size + 1) (by omega)
          have HB2 := Lib.hid (bthen HB1.out hb2)
          have hz2 : w.heap.size + 1 < w2.heap.size := by have := hb2.size; omega
          clear hb2
          go_wp2_with fail
          refine (HS.out _).mono ?_; rintro e w3 ⟨rfl, rfl⟩
          go_wp2_with fail
          refine (hX _).mono ?_; rintro e w3 ⟨rfl, hb3⟩
          have p30 := rule hb3 (w.heap.size) (by omega)
          have p31 := rule hb3 (w.heap.size + 1) (by omega)
          have HB3 := Lib.hid (bthen HB2.out hb3)
          have hz3 : w.heap.size + 1 < w3.heap.size := by have := hb3.size; omega
          clear hb3
          go_wp2_with fail
          refine (hY _).mono ?_; rintro e w4 ⟨rfl, hb4⟩
          have p40 := rule hb4 (w.heap.size) (by omega)
          have p41 := rule hb4 (w.heap.size + 1) (by omega)
          have HB4 := Lib.hid (bthen HB3.out hb4)
          have hz4 : w.heap.size + 1 < w4.heap.size := by have := hb4.size; omega
          clear hb4
          go_wp2_with fail
          refine (HV.out _).mono ?_; rintro e w5 ⟨rfl, rfl⟩
          have HB5 := Lib.hid HB4.out
          go_wp2_with fail
          refine (HG.out _).mono ?_; rintro e w6 ⟨rfl, rfl⟩
          go_wp2_with fail
          go_ret2
          exact RefO.err hu HB5.out
      · rw [if_neg hb0]
        have hb0' : (eb == 0) = false := by simpa using hb0
        have HZ := Lib.hid hb0
        clear hb0
        obtain ⟨ka, xa, ca, na, sa, ra, fa, la⟩ := a
        obtain ⟨kb, xb, cb, nb, sb, rb, fb, lb⟩ := b
        unfold Ob.vl at *
        simp only at *
        go_enter Tryd.func12, Tryd.ntmps12
        go_wp2_with fail
        refine (hNa _).mono ?_; rintro e w1 ⟨rfl, hb1⟩
        have p10 := rule hb1 (w.heap.size) (by simp <;> omega)
        have p11 := rule hb1 (w.heap.size + 1) (by simp <;> omega)
        have HB1 := Lib.hid (bthen (below2 _ _ _ ) hb1)
        have hz1 : w.heap.size + 1 < w1.heap.size := by have := hb1.size; simp at this; omega
        clear hb1
        go_wp2_with fail
        refine (hNb _).mono ?_; rintro e w2 ⟨rfl, hb2⟩
        have p20 := rule hb2 (w.heap.size) (by omega)
        have p21 := rule hb2 (w.heap.size + 1) (by omega)
        have HB2 := Lib.hid (bthen HB1.out hb2)
        have hz2 : w.heap.size + 1 < w2.heap.size := by have := hb2.size; omega
        clear hb2
        go_wp2_with fail
        refine (HS.out _).mono ?_; rintro e w3 ⟨rfl, rfl⟩
        go_wp2_with fail
        refine (hX _).mono ?_; rintro e w3 ⟨rfl, hb3⟩
        have p30 := rule hb3 (w.heap.size) (by omega)
        have p31 := rule hb3 (w.heap.size + 1) (by omega)
        have HB3 := Lib.hid (bthen HB2.out hb3)
        have hz3 : w.heap.size + 1 < w3.heap.size := by have := hb3.size; omega
        clear hb3
        go_wp2_with fail
        refine (hY _).mono ?_; rintro e w4 ⟨rfl, hb4⟩
        have p40 := rule hb4 (w.heap.size) (by omega)
        have p41 := rule hb4 (w.heap.size + 1) (by omega)
        have HB4 := Lib.hid (bthen HB3.out hb4)
        have hz4 : w.heap.size + 1 < w4.heap.size := by have := hb4.size; omega
        clear hb4
        go_wp2_with fail
        go_ret2
        exact RefO.err HZ.out HB4.out
    · rw [if_neg ha0]
      have ha0' : (ea == 0) = false := by simpa using ha0
      have HZ := Lib.hid ha0
      clear ha0
      obtain ⟨ka, xa, ca, na, sa, ra, fa, la⟩ := a
      obtain ⟨kb, xb, cb, nb, sb, rb, fb, lb⟩ := b
      unfold Ob.vl at *
      simp only at *
      go_enter Tryd.func12, Tryd.ntmps12
      go_wp2_with fail
      refine (hNa _).mono ?_; rintro e w1 ⟨rfl, hb1⟩
      have p10 := rule hb1 (w.heap.size) (by simp <;> omega)
      have p11 := rule hb1 (w.heap.size + 1) (by simp <;> omega)
      have HB1 := Lib.hid (bthen (below2 _ _ _ ) hb1)
      have hz1 : w.heap.size + 1 < w1.heap.size := by have := hb1.size; simp at this; omega
      clear hb1
      go_wp2_with fail
      refine (hNb _).mono ?_; rintro e w2 ⟨rfl, hb2⟩
      have p20 := rule hb2 (w.heap.size) (by omega)
      have p21 := rule hb2 (w.heap.size + 1) (by omega)
      have HB2 := Lib.hid (bthen HB1.out hb2)
      have hz2 : w.heap.size + 1 < w2.heap.size := by have := hb2.size; omega
      clear hb2
      go_wp2_with fail
      refine (HS.out _).mono ?_; rintro e w3 ⟨rfl, rfl⟩
      go_wp2_with fail
      refine (hX _).mono ?_; rintro e w3 ⟨rfl, hb3⟩
      have p30 := rule hb3 (w.heap.size) (by omega)
      have p31 := rule hb3 (w.heap.size + 1) (by omega)
      have HB3 := Lib.hid (bthen HB2.out hb3)
      have hz3 : w.heap.size + 1 < w3.heap.size := by have := hb3.size; omega
      clear hb3
      go_wp2_with fail
      go_ret2
      exact RefO.err HZ.out HB3.out
set_option maxHeartbeats 4000000 in
set_option maxRecDepth 100000 in
theorem ref_add_tf {a b : Ob} {B c : Nat} {w : World} (ha : At10 w B 0 a) (hb : At10 w B 10 b) (hn : (isNumB a && isNumB b) = true) (hka : (a.kind == 1) = true) (hkb : (b.kind == 1) = false) : Calls Tryd.prog 12 #[.string ⟨#[97, 100, 100]⟩, .slice (some ⟨B, 0, none⟩) 2 c] w fun e w' => RefO w (numO (fun x y => x + y) addV addE a b) e w' := by
    have e0 : numO (fun x y => x + y) addV addE a b = (if asE a = 0 then (if asE b = 0 then madeO 2 (addV (asV a) (asV b)) (addE (asV a) (asV b)) else noO (asE b)) else noO (asE a)) := by unfold numO; rw [if_neg (fun h => by have h2 := h.1; rw [Bool.and_eq_true] at h2; have := ((isInt_iff b).1 h2.2).1; simp [this] at hkb)]; unfold realsO; rw [if_pos hn]
    rw [e0]
    clear e0
    rw [Bool.and_eq_true] at hn
    have hNa := refNum_at a
    have hNb := refNum_at b
    rw [hn.1] at hNa
    rw [hn.2] at hNb
    have h1 := hn.1
    have h2 := hn.2
    obtain ⟨-, x1, x2⟩ := (isNum_iff a).1 h1
    obtain ⟨-, y1, y2⟩ := (isNum_iff b).1 h2
    have hX := fun W => refAs_at a W h1
    have hY := fun W => refAs_at b W h2
    clear hn h1 h2
    have HV := Lib.hid (fun W => refAdd_any (asV a) (asV b) W)
    generalize asV a = x at *
    generalize asV b = y at *
    generalize asE a = ea at *
    generalize asE b = eb at *
    generalize addV x y = v at *
    generalize addE x y = u at *
    obtain ⟨a0, a1, a2, a3, a4, a5, a6, a7, a8, a9⟩ := ha
    obtain ⟨b0, b1, b2, b3, b4, b5, b6, b7, b8, b9⟩ := hb
    simp only [Nat.zero_add, Nat.reduceAdd] at *
    have hlt := World.block_lt_of_cell? w _ a0
    by_cases ha0 : ea = 0
    · subst ha0
      rw [if_pos rfl]
      by_cases hb0 : eb = 0
      · subst hb0
        rw [if_pos rfl]
        by_cases hu : u = 0
        · subst hu
          have eM : madeO 2 v 0 = okO 2 v := rfl
          rw [eM]
          clear eM
          have HG := Lib.hid (fun W => refGives_ok v W)
          obtain ⟨ka, xa, ca, na, sa, ra, fa, la⟩ := a
          obtain ⟨kb, xb, cb, nb, sb, rb, fb, lb⟩ := b
          unfold Ob.vl at *
          simp only at *
          go_enter Tryd.func12, Tryd.ntmps12
          go_wp2_with fail
          refine (hNa _).mono ?_; rintro e w1 ⟨rfl, hb1⟩
          have p10 := rule hb1 (w.heap.size) (by simp <;> omega)
          have p11 := rule hb1 (w.heap.size + 1) (by simp <;> omega)
          have HB1 := Lib.hid (bthen (below2 _ _ _ ) hb1)
          have hz1 : w.heap.size + 1 < w1.heap.size := by have := hb1.size; simp at this; omega
          clear hb1
          go_wp2_with fail
          refine (hNb _).mono ?_; rintro e w2 ⟨rfl, hb2⟩
          have p20 := rule hb2 (w.heap.size) (by omega)
          have p21 := rule hb2 (w.heap.size + 1) (by omega)
          have HB2 := Lib.hid (bthen HB1.out hb2)
          have hz2 : w.heap.size + 1 < w2.heap.size := by have := hb2.size; omega
          clear hb2
          go_wp2_with fail
          refine (hX _).mono ?_; rintro e w3 ⟨rfl, hb3⟩
          have p30 := rule hb3 (w.heap.size) (by omega)
          have p31 := rule hb3 (w.heap.size + 1) (by omega)
          have HB3 := Lib.hid (bthen HB2.out hb3)
          have hz3 : w.heap.size + 1 < w3.heap.size := by have := hb3.size; omega
          clear hb3
          go_wp2_with fail
          refine (hY _).mono ?_; rintro e w4 ⟨rfl, hb4⟩
          have p40 := rule hb4 (w.heap.size) (by omega)
          have p41 := rule hb4 (w.heap.size + 1) (by omega)
          have HB4 := Lib.hid (bthen HB3.out hb4)
          have hz4 : w.heap.size + 1 < w4.heap.size := by have := hb4.size; omega
          clear hb4
          go_wp2_with fail
          refine (HV.out _).mono ?_; rintro e w5 ⟨rfl, rfl⟩
          have HB5 := Lib.hid HB4.out
          go_wp2_with fail
          refine (HG.out _).mono ?_; rintro e w6 ⟨bq, hbq, rfl, hro⟩
          have HRO := Lib.hid (hro.after HB5.out)
          clear hro
          go_wp2_with fail
          go_ret2
          exact HRO.out
        · have eM : madeO 2 v u = noO u := by unfold madeO; rw [if_neg hu]
          rw [eM]
          clear eM
          have HG := Lib.hid (fun W => refGives_no v u hu W)
          obtain ⟨ka, xa, ca, na, sa, ra, fa, la⟩ := a
          obtain ⟨kb, xb, cb, nb, sb, rb, fb, lb⟩ := b
          unfold Ob.vl at *
          simp only at *
          go_enter Tryd.func12, Tryd.ntmps12
          go_wp2_with fail
          refine (hNa _).mono ?_; rintro e w1 ⟨rfl, hb1⟩
          have p10 := rule hb1 (w.heap.size) (by simp <;> omega)
          have p11 := rule hb1 (w.heap.size + 1) (by simp <;> omega)
          have HB1 := Lib.hid (bthen (below2 _ _ _ ) hb1)
          have hz1 : w.heap.size + 1 < w1.heap.size := by have := hb1.size; simp at this; omega
          clear hb1
          go_wp2_with fail
          refine (hNb _).mono ?_; rintro e w2 ⟨rfl, hb2⟩
          have p20 := rule hb2 (w.heap.size) (by omega)
          have p21 := rule hb2 (w.heap.size + 1) (by omega)
          have HB2 := Lib.hid (bthen HB1.out hb2)
          have hz2 : w.heap.size + 1 < w2.heap.size := by have := hb2.size; omega
          clear hb2
          go_wp2_with fail
          refine (hX _).mono ?_; rintro e w3 ⟨rfl, hb3⟩
          have p30 := rule hb3 (w.heap.size) (by omega)
          have p31 := rule hb3 (w.heap.size + 1) (by omega)
          have HB3 := Lib.hid (bthen HB2.out hb3)
          have hz3 : w.heap.size + 1 < w3.heap.size := by have := hb3.size; omega
          clear hb3
          go_wp2_with fail
          refine (hY _).mono ?_; rintro e w4 ⟨rfl, hb4⟩
          have p40 := rule hb4 (w.heap.size) (by omega)
          have p41 := rule hb4 (w.heap.size + 1) (by omega)
          have HB4 := Lib.hid (bthen HB3.out hb4)
          have hz4 : w.heap.size + 1 < w4.heap.size := by have := hb4.size; omega
          clear hb4
          go_wp2_with fail
          refine (HV.out _).mono ?_; rintro e w5 ⟨rfl, rfl⟩
          have HB5 := Lib.hid HB4.out
          go_wp2_with fail
          refine (HG.out _).mono ?_; rintro e w6 ⟨rfl, rfl⟩
          go_wp2_with fail
          go_ret2
          exact RefO.err hu HB5.out
      · rw [if_neg hb0]
        have hb0' : (eb == 0) = false := by simpa using hb0
        have HZ := Lib.hid hb0
        clear hb0
        obtain ⟨ka, xa, ca, na, sa, ra, fa, la⟩ := a
        obtain ⟨kb, xb, cb, nb, sb, rb, fb, lb⟩ := b
        unfold Ob.vl at *
        simp only at *
        go_enter Tryd.func12, Tryd.ntmps12
        go_wp2_with fail
        refine (hNa _).mono ?_; rintro e w1 ⟨rfl, hb1⟩
        have p10 := rule hb1 (w.heap.size) (by simp <;> omega)
        have p11 := rule hb1 (w.heap.size + 1) (by simp <;> omega)
        have HB1 := Lib.hid (bthen (below2 _ _ _ ) hb1)
        have hz1 : w.heap.size + 1 < w1.heap.size := by have := hb1.size; simp at this; omega
        clear hb1
        go_wp2_with fail
        refine (hNb _).mono ?_; rintro e w2 ⟨rfl, hb2⟩
        have p20 := rule hb2 (w.heap.size) (by omega)
        have p21 := rule hb2 (w.heap.size + 1) (by omega)
        have HB2 := Lib.hid (bthen HB1.out hb2)
        have hz2 : w.heap.size + 1 < w2.heap.size := by have := hb2.size; omega
        clear hb2
        go_wp2_with fail
        refine (hX _).mono ?_; rintro e w3 ⟨rfl, hb3⟩
        have p30 := rule hb3 (w.heap.size) (by omega)
        have p31 := rule hb3 (w.heap.size + 1) (by omega)
        have HB3 := Lib.hid (bthen HB2.out hb3)
        have hz3 : w.heap.size + 1 < w3.heap.size := by have := hb3.size; omega
        clear hb3
        go_wp2_with fail
        refine (hY _).mono ?_; rintro e w4 ⟨rfl, hb4⟩
        have p40 := rule hb4 (w.heap.size) (by omega)
        have p41 := rule hb4 (w.heap.size + 1) (by omega)
        have HB4 := Lib.hid (bthen HB3.out hb4)
        have hz4 : w.heap.size + 1 < w4.heap.size := by have := hb4.size; omega
        clear hb4
        go_wp2_with fail
        go_ret2
        exact RefO.err HZ.out HB4.out
    · rw [if_neg ha0]
      have ha0' : (ea == 0) = false := by simpa using ha0
      have HZ := Lib.hid ha0
      clear ha0
      obtain ⟨ka, xa, ca, na, sa, ra, fa, la⟩ := a
      obtain ⟨kb, xb, cb, nb, sb, rb, fb, lb⟩ := b
      unfold Ob.vl at *
      simp only at *
      go_enter Tryd.func12, Tryd.ntmps12
      go_wp2_with fail
      refine (hNa _).mono ?_; rintro e w1 ⟨rfl, hb1⟩
      have p10 := rule hb1 (w.heap.size) (by simp <;> omega)
      have p11 := rule hb1 (w.heap.size + 1) (by simp <;> omega)
      have HB1 := Lib.hid (bthen (below2 _ _ _ ) hb1)
      have hz1 : w.heap.size + 1 < w1.heap.size := by have := hb1.size; simp at this; omega
      clear hb1
      go_wp2_with fail
      refine (hNb _).mono ?_; rintro e w2 ⟨rfl, hb2⟩
      have p20 := rule hb2 (w.heap.size) (by omega)
      have p21 := rule hb2 (w.heap.size + 1) (by omega)
      have HB2 := Lib.hid (bthen HB1.out hb2)
      have hz2 : w.heap.size + 1 < w2.heap.size := by have := hb2.size; omega
      clear hb2
      go_wp2_with fail
      refine (hX _).mono ?_; rintro e w3 ⟨rfl, hb3⟩
      have p30 := rule hb3 (w.heap.size) (by omega)
      have p31 := rule hb3 (w.heap.size + 1) (by omega)
      have HB3 := Lib.hid (bthen HB2.out hb3)
      have hz3 : w.heap.size + 1 < w3.heap.size := by have := hb3.size; omega
      clear hb3
      go_wp2_with fail
      go_ret2
      exact RefO.err HZ.out HB3.out
set_option maxHeartbeats 4000000 in
set_option maxRecDepth 100000 in
theorem ref_add_f {a b : Ob} {B c : Nat} {w : World} (ha : At10 w B 0 a) (hb : At10 w B 10 b) (hn : (isNumB a && isNumB b) = true) (hka : (a.kind == 1) = false) : Calls Tryd.prog 12 #[.string ⟨#[97, 100, 100]⟩, .slice (some ⟨B, 0, none⟩) 2 c] w fun e w' => RefO w (numO (fun x y => x + y) addV addE a b) e w' := by
    have e0 : numO (fun x y => x + y) addV addE a b = (if asE a = 0 then (if asE b = 0 then madeO 2 (addV (asV a) (asV b)) (addE (asV a) (asV b)) else noO (asE b)) else noO (asE a)) := by unfold numO; rw [if_neg (fun h => by have h2 := h.1; rw [Bool.and_eq_true] at h2; have := ((isInt_iff a).1 h2.1).1; simp [this] at hka)]; unfold realsO; rw [if_pos hn]
    rw [e0]
    clear e0
    rw [Bool.and_eq_true] at hn
    have hNa := refNum_at a
    have hNb := refNum_at b
    rw [hn.1] at hNa
    rw [hn.2] at hNb
    have h1 := hn.1
    have h2 := hn.2
    obtain ⟨-, x1, x2⟩ := (isNum_iff a).1 h1
    obtain ⟨-, y1, y2⟩ := (isNum_iff b).1 h2
    have hX := fun W => refAs_at a W h1
    have hY := fun W => refAs_at b W h2
    clear hn h1 h2
    have HV := Lib.hid (fun W => refAdd_any (asV a) (asV b) W)
    generalize asV a = x at *
    generalize asV b = y at *
    generalize asE a = ea at *
    generalize asE b = eb at *
    generalize addV x y = v at *
    generalize addE x y = u at *
    obtain ⟨a0, a1, a2, a3, a4, a5, a6, a7, a8, a9⟩ := ha
    obtain ⟨b0, b1, b2, b3, b4, b5, b6, b7, b8, b9⟩ := hb
    simp only [Nat.zero_add, Nat.reduceAdd] at *
    have hlt := World.block_lt_of_cell? w _ a0
    by_cases ha0 : ea = 0
    · subst ha0
      rw [if_pos rfl]
      by_cases hb0 : eb = 0
      · subst hb0
        rw [if_pos rfl]
        by_cases hu : u = 0
        · subst hu
          have eM : madeO 2 v 0 = okO 2 v := rfl
          rw [eM]
          clear eM
          have HG := Lib.hid (fun W => refGives_ok v W)
          obtain ⟨ka, xa, ca, na, sa, ra, fa, la⟩ := a
          obtain ⟨kb, xb, cb, nb, sb, rb, fb, lb⟩ := b
          unfold Ob.vl at *
          simp only at *
          go_enter Tryd.func12, Tryd.ntmps12
          go_wp2_with fail
          refine (hNa _).mono ?_; rintro e w1 ⟨rfl, hb1⟩
          have p10 := rule hb1 (w.heap.size) (by simp <;> omega)
          have p11 := rule hb1 (w.heap.size + 1) (by simp <;> omega)
          have HB1 := Lib.hid (bthen (below2 _ _ _ ) hb1)
          have hz1 : w.heap.size + 1 < w1.heap.size := by have := hb1.size; simp at this; omega
          clear hb1
          go_wp2_with fail
          refine (hNb _).mono ?_; rintro e w2 ⟨rfl, hb2⟩
          have p20 := rule hb2 (w.heap.size) (by omega)
          have p21 := rule hb2 (w.heap.size + 1) (by omega)
          have HB2 := Lib.hid (bthen HB1.out hb2)
          have hz2 : w.heap.size + 1 < w2.heap.size := by have := hb2.size; omega
          clear hb2
          go_wp2_with fail
          refine (hX _).mono ?_; rintro e w3 ⟨rfl, hb3⟩
          have p30 := rule hb3 (w.heap.size) (by omega)
          have p31 := rule hb3 (w.heap.size + 1) (by omega)
          have HB3 := Lib.hid (bthen HB2.out hb3)
          have hz3 : w.heap.size + 1 < w3.heap.size := by have := hb3.size; omega
          clear hb3
          go_wp2_with fail
          refine (hY _).mono ?_; rintro e w4 ⟨rfl, hb4⟩
          have p40 := rule hb4 (w.heap.size) (by omega)
          have p41 := rule hb4 (w.heap.size + 1) (by omega)
          have HB4 := Lib.hid (bthen HB3.out hb4)
          have hz4 : w.heap.size + 1 < w4.heap.size := by have := hb4.size; omega
          clear hb4
          go_wp2_with fail
          refine (HV.out _).mono ?_; rintro e w5 ⟨rfl, rfl⟩
          have HB5 := Lib.hid HB4.out
          go_wp2_with fail
          refine (HG.out _).mono ?_; rintro e w6 ⟨bq, hbq, rfl, hro⟩
          have HRO := Lib.hid (hro.after HB5.out)
          clear hro
          go_wp2_with fail
          go_ret2
          exact HRO.out
        · have eM : madeO 2 v u = noO u := by unfold madeO; rw [if_neg hu]
          rw [eM]
          clear eM
          have HG := Lib.hid (fun W => refGives_no v u hu W)
          obtain ⟨ka, xa, ca, na, sa, ra, fa, la⟩ := a
          obtain ⟨kb, xb, cb, nb, sb, rb, fb, lb⟩ := b
          unfold Ob.vl at *
          simp only at *
          go_enter Tryd.func12, Tryd.ntmps12
          go_wp2_with fail
          refine (hNa _).mono ?_; rintro e w1 ⟨rfl, hb1⟩
          have p10 := rule hb1 (w.heap.size) (by simp <;> omega)
          have p11 := rule hb1 (w.heap.size + 1) (by simp <;> omega)
          have HB1 := Lib.hid (bthen (below2 _ _ _ ) hb1)
          have hz1 : w.heap.size + 1 < w1.heap.size := by have := hb1.size; simp at this; omega
          clear hb1
          go_wp2_with fail
          refine (hNb _).mono ?_; rintro e w2 ⟨rfl, hb2⟩
          have p20 := rule hb2 (w.heap.size) (by omega)
          have p21 := rule hb2 (w.heap.size + 1) (by omega)
          have HB2 := Lib.hid (bthen HB1.out hb2)
          have hz2 : w.heap.size + 1 < w2.heap.size := by have := hb2.size; omega
          clear hb2
          go_wp2_with fail
          refine (hX _).mono ?_; rintro e w3 ⟨rfl, hb3⟩
          have p30 := rule hb3 (w.heap.size) (by omega)
          have p31 := rule hb3 (w.heap.size + 1) (by omega)
          have HB3 := Lib.hid (bthen HB2.out hb3)
          have hz3 : w.heap.size + 1 < w3.heap.size := by have := hb3.size; omega
          clear hb3
          go_wp2_with fail
          refine (hY _).mono ?_; rintro e w4 ⟨rfl, hb4⟩
          have p40 := rule hb4 (w.heap.size) (by omega)
          have p41 := rule hb4 (w.heap.size + 1) (by omega)
          have HB4 := Lib.hid (bthen HB3.out hb4)
          have hz4 : w.heap.size + 1 < w4.heap.size := by have := hb4.size; omega
          clear hb4
          go_wp2_with fail
          refine (HV.out _).mono ?_; rintro e w5 ⟨rfl, rfl⟩
          have HB5 := Lib.hid HB4.out
          go_wp2_with fail
          refine (HG.out _).mono ?_; rintro e w6 ⟨rfl, rfl⟩
          go_wp2_with fail
          go_ret2
          exact RefO.err hu HB5.out
      · rw [if_neg hb0]
        have hb0' : (eb == 0) = false := by simpa using hb0
        have HZ := Lib.hid hb0
        clear hb0
        obtain ⟨ka, xa, ca, na, sa, ra, fa, la⟩ := a
        obtain ⟨kb, xb, cb, nb, sb, rb, fb, lb⟩ := b
        unfold Ob.vl at *
        simp only at *
        go_enter Tryd.func12, Tryd.ntmps12
        go_wp2_with fail
        refine (hNa _).mono ?_; rintro e w1 ⟨rfl, hb1⟩
        have p10 := rule hb1 (w.heap.size) (by simp <;> omega)
        have p11 := rule hb1 (w.heap.size + 1) (by simp <;> omega)
        have HB1 := Lib.hid (bthen (below2 _ _ _ ) hb1)
        have hz1 : w.heap.size + 1 < w1.heap.size := by have := hb1.size; simp at this; omega
        clear hb1
        go_wp2_with fail
        refine (hNb _).mono ?_; rintro e w2 ⟨rfl, hb2⟩
        have p20 := rule hb2 (w.heap.size) (by omega)
        have p21 := rule hb2 (w.heap.size + 1) (by omega)
        have HB2 := Lib.hid (bthen HB1.out hb2)
        have hz2 : w.heap.size + 1 < w2.heap.size := by have := hb2.size; omega
        clear hb2
        go_wp2_with fail
        refine (hX _).mono ?_; rintro e w3 ⟨rfl, hb3⟩
        have p30 := rule hb3 (w.heap.size) (by omega)
        have p31 := rule hb3 (w.heap.size + 1) (by omega)
        have HB3 := Lib.hid (bthen HB2.out hb3)
        have hz3 : w.heap.size + 1 < w3.heap.size := by have := hb3.size; omega
        clear hb3
        go_wp2_with fail
        refine (hY _).mono ?_; rintro e w4 ⟨rfl, hb4⟩
        have p40 := rule hb4 (w.heap.size) (by omega)
        have p41 := rule hb4 (w.heap.size + 1) (by omega)
        have HB4 := Lib.hid (bthen HB3.out hb4)
        have hz4 : w.heap.size + 1 < w4.heap.size := by have := hb4.size; omega
        clear hb4
        go_wp2_with fail
        go_ret2
        exact RefO.err HZ.out HB4.out
    · rw [if_neg ha0]
      have ha0' : (ea == 0) = false := by simpa using ha0
      have HZ := Lib.hid ha0
      clear ha0
      obtain ⟨ka, xa, ca, na, sa, ra, fa, la⟩ := a
      obtain ⟨kb, xb, cb, nb, sb, rb, fb, lb⟩ := b
      unfold Ob.vl at *
      simp only at *
      go_enter Tryd.func12, Tryd.ntmps12
      go_wp2_with fail
      refine (hNa _).mono ?_; rintro e w1 ⟨rfl, hb1⟩
      have p10 := rule hb1 (w.heap.size) (by simp <;> omega)
      have p11 := rule hb1 (w.heap.size + 1) (by simp <;> omega)
      have HB1 := Lib.hid (bthen (below2 _ _ _ ) hb1)
      have hz1 : w.heap.size + 1 < w1.heap.size := by have := hb1.size; simp at this; omega
      clear hb1
      go_wp2_with fail
      refine (hNb _).mono ?_; rintro e w2 ⟨rfl, hb2⟩
      have p20 := rule hb2 (w.heap.size) (by omega)
      have p21 := rule hb2 (w.heap.size + 1) (by omega)
      have HB2 := Lib.hid (bthen HB1.out hb2)
      have hz2 : w.heap.size + 1 < w2.heap.size := by have := hb2.size; omega
      clear hb2
      go_wp2_with fail
      refine (hX _).mono ?_; rintro e w3 ⟨rfl, hb3⟩
      have p30 := rule hb3 (w.heap.size) (by omega)
      have p31 := rule hb3 (w.heap.size + 1) (by omega)
      have HB3 := Lib.hid (bthen HB2.out hb3)
      have hz3 : w.heap.size + 1 < w3.heap.size := by have := hb3.size; omega
      clear hb3
      go_wp2_with fail
      go_ret2
      exact RefO.err HZ.out HB3.out
theorem ref_add {a b : Ob} {B c : Nat} {w : World} (ha : At10 w B 0 a) (hb : At10 w B 10 b) : Calls Tryd.prog 12 #[.string ⟨#[97, 100, 100]⟩, .slice (some ⟨B, 0, none⟩) 2 c] w fun e w' => RefO w (numO (fun x y => x + y) addV addE a b) e w' := by
  cases hn : (isNumB a && isNumB b)
  · exact ref_add_no ha hb hn
  · cases hka : (a.kind == 1)
    · exact ref_add_f ha hb hn hka
    · cases hkb : (b.kind == 1)
      · exact ref_add_tf ha hb hn hka hkb
      · cases hf : fits (a.n + b.n)
        · exact ref_add_tt ha hb hn hka hkb hf
        · refine ref_add_int ha hb ?_ hf
          rw [Bool.and_eq_true] at hn ⊢
          exact ⟨(isInt_iff a).2 ⟨by simpa using hka, ((isNum_iff a).1 hn.1).2⟩, (isInt_iff b).2 ⟨by simpa using hkb, ((isNum_iff b).1 hn.2).2⟩⟩
end Ari
end Go.Proofs.YtgbpldfcahajeaaDoor
namespace Go.Proofs.YtgbpldfcahajeaaDoor
open Go.RowKit
open Fx
namespace Ari
set_option maxHeartbeats 2000000 in
set_option maxRecDepth 100000 in
theorem ref_sub_no {a b : Ob} {B c : Nat} {w : World} (ha : At10 w B 0 a) (hb : At10 w B 10 b) (hn : (isNumB a && isNumB b) = false) : Calls Tryd.prog 12 #[.string ⟨#[115, 117, 98]⟩, .slice (some ⟨B, 0, none⟩) 2 c] w fun e w' => RefO w (numO (fun x y => x - y) subV subE a b) e w' := by
    have hi : (isIntB a && isIntB b) = false := by cases h1 : isIntB a <;> cases h2 : isIntB b <;> simp_all [isInt_num]
    have e0 : numO (fun x y => x - y) subV subE a b = noO 16 := by unfold numO; rw [hi, if_neg (by simp)]; unfold realsO; rw [hn]; rfl
    rw [e0]
    clear e0 hi
    have hNa := refNum_at a
    have hNb := refNum_at b
    obtain ⟨a0, a1, a2, a3, a4, a5, a6, a7, a8, a9⟩ := ha
    obtain ⟨b0, b1, b2, b3, b4, b5, b6, b7, b8, b9⟩ := hb
    simp only [Nat.zero_add, Nat.reduceAdd] at *
    have hlt := World.block_lt_of_cell? w _ a0
    cases h1 : isNumB a
    · rw [h1] at hNa
      clear h1 hn hNb
      obtain ⟨ka, xa, ca, na, sa, ra, fa, la⟩ := a
      obtain ⟨kb, xb, cb, nb, sb, rb, fb, lb⟩ := b
      unfold Ob.vl at *
      simp only at *
      go_enter Tryd.func12, Tryd.ntmps12
      go_wp2_with fail
      refine (hNa _).mono ?_; rintro e w1 ⟨rfl, hb1⟩
      have p10 := rule hb1 (w.heap.size) (by simp <;> omega)
      have p11 := rule hb1 (w.heap.size + 1) (by simp <;> omega)
      have HB1 := Lib.hid (bthen (below2 _ _ _ ) hb1)
      have hz1 : w.heap.size + 1 < w1.heap.size := by have := hb1.size; simp at this; omega
      clear hb1
      go_wp2_with fail
      go_ret2
      exact RefO.err (by decide) HB1.out
    · have h2 : isNumB b = false := by rw [h1] at hn; simpa using hn
      rw [h1] at hNa
      rw [h2] at hNb
      clear h1 h2 hn
      obtain ⟨ka, xa, ca, na, sa, ra, fa, la⟩ := a
      obtain ⟨kb, xb, cb, nb, sb, rb, fb, lb⟩ := b
      unfold Ob.vl at *
      simp only at *
      go_enter Tryd.func12, Tryd.ntmps12
      go_wp2_with fail
      refine (hNa _).mono ?_; rintro e w1 ⟨rfl, hb1⟩
      have p10 := rule hb1 (w.heap.size) (by simp <;> omega)
      have p11 := rule hb1 (w.heap.size + 1) (by simp <;> omega)
      have HB1 := Lib.hid (bthen (below2 _ _ _ ) hb1)
      have hz1 : w.heap.size + 1 < w1.heap.size := by have := hb1.size; simp at this; omega
      clear hb1
      go_wp2_with fail
      refine (hNb _).mono ?_; rintro e w2 ⟨rfl, hb2⟩
      have p20 := rule hb2 (w.heap.size) (by omega)
      have p21 := rule hb2 (w.heap.size + 1) (by omega)
      have HB2 := Lib.hid (bthen HB1.out hb2)
      have hz2 : w.heap.size + 1 < w2.heap.size := by have := hb2.size; omega
      clear hb2
      go_wp2_with fail
      go_ret2
      exact RefO.err (by decide) HB2.out
set_option maxHeartbeats 2000000 in
set_option maxRecDepth 100000 in
theorem ref_sub_int {a b : Ob} {B c : Nat} {w : World} (ha : At10 w B 0 a) (hb : At10 w B 10 b) (hi : (isIntB a && isIntB b) = true) (hf : fits (a.n - b.n) = true) : Calls Tryd.prog 12 #[.string ⟨#[115, 117, 98]⟩, .slice (some ⟨B, 0, none⟩) 2 c] w fun e w' => RefO w (numO (fun x y => x - y) subV subE a b) e w' := by
    have e0 : numO (fun x y => x - y) subV subE a b = okO 1 (a.n - b.n) := by unfold numO; rw [if_pos ⟨hi, hf⟩]
    rw [e0]
    clear e0
    have hka : (a.kind == 1) = true := by rw [Bool.and_eq_true] at hi; have := ((isInt_iff a).1 hi.1).1; simp [this]
    have hkb : (b.kind == 1) = true := by rw [Bool.and_eq_true] at hi; have := ((isInt_iff b).1 hi.2).1; simp [this]
    have hn : (isNumB a && isNumB b) = true := by rw [Bool.and_eq_true] at hi ⊢; exact ⟨isInt_num hi.1, isInt_num hi.2⟩
    clear hi
    rw [Bool.and_eq_true] at hn
    have hNa := refNum_at a
    have hNb := refNum_at b
    rw [hn.1] at hNa
    rw [hn.2] at hNb
    have h1 := hn.1
    have h2 := hn.2
    obtain ⟨-, x1, x2⟩ := (isNum_iff a).1 h1
    obtain ⟨-, y1, y2⟩ := (isNum_iff b).1 h2
    have hS := fun W => refSmall_at (a.n - b.n) W
    rw [hf] at hS
    have HS := Lib.hid hS
    have HW := Lib.hid (fun W => refWhole_at (a.n - b.n) W)
    have HO := Lib.hid (fun W => refOne_at 1 (a.n - b.n) W)
    clear hn h1 h2 hf hS
    obtain ⟨a0, a1, a2, a3, a4, a5, a6, a7, a8, a9⟩ := ha
    obtain ⟨b0, b1, b2, b3, b4, b5, b6, b7, b8, b9⟩ := hb
    simp only [Nat.zero_add, Nat.reduceAdd] at *
    have hlt := World.block_lt_of_cell? w _ a0
    obtain ⟨ka, xa, ca, na, sa, ra, fa, la⟩ := a
    obtain ⟨kb, xb, cb, nb, sb, rb, fb, lb⟩ := b
    unfold mk Ob.vl at *
    simp only at *
    go_enter Tryd.func12, Tryd.ntmps12
    go_wp2_with fail
    refine (hNa _).mono ?_; rintro e w1 ⟨rfl, hb1⟩
    have p10 := rule hb1 (w.heap.size) (by simp <;> omega)
    have p11 := rule hb1 (w.heap.size + 1) (by simp <;> omega)
    have HB1 := Lib.hid (bthen (below2 _ _ _ ) hb1)
    have hz1 : w.heap.size + 1 < w1.heap.size := by have := hb1.size; simp at this; omega
    clear hb1
    go_wp2_with fail
    refine (hNb _).mono ?_; rintro e w2 ⟨rfl, hb2⟩
    have p20 := rule hb2 (w.heap.size) (by omega)
    have p21 := rule hb2 (w.heap.size + 1) (by omega)
    have HB2 := Lib.hid (bthen HB1.out hb2)
    have hz2 : w.heap.size + 1 < w2.heap.size := by have := hb2.size; omega
    clear hb2
    go_wp2_with fail
    refine (HS.out _).mono ?_; rintro e w3 ⟨rfl, rfl⟩
    go_wp2_with fail
    refine (HW.out _).mono ?_; rintro e w3 ⟨rfl, hb3⟩
    have HB3 := Lib.hid (bthen HB2.out hb3)
    clear hb3
    go_wp2_with fail
    refine (HO.out _).mono ?_; rintro e w4 ⟨bq, hbq, rfl, hro⟩
    have HRO := Lib.hid (hro.after HB3.out)
    clear hro
    go_wp2_with fail
    go_ret2
    exact HRO.out
set_option maxHeartbeats 4000000 in
set_option maxRecDepth 100000 in
theorem ref_sub_tt {a b : Ob} {B c : Nat} {w : World} (ha : At10 w B 0 a) (hb : At10 w B 10 b) (hn : (isNumB a && isNumB b) = true) (hka : (a.kind == 1) = true) (hkb : (b.kind == 1) = true) (hf : fits (a.n - b.n) = false) : Calls Tryd.prog 12 #[.string ⟨#[115, 117, 98]⟩, .slice (some ⟨B, 0, none⟩) 2 c] w fun e w' => RefO w (numO (fun x y => x - y) subV subE a b) e w' := by
    have e0 : numO (fun x y => x - y) subV subE a b = (if asE a = 0 then (if asE b = 0 then madeO 2 (subV (asV a) (asV b)) (subE (asV a) (asV b)) else noO (asE b)) else noO (asE a)) := by unfold numO; rw [if_neg (fun h => by rw [hf] at h; cases h.2)]; unfold realsO; rw [if_pos hn]
    rw [e0]
    clear e0
    rw [Bool.and_eq_true] at hn
    have hNa := refNum_at a
    have hNb := refNum_at b
    rw [hn.1] at hNa
    rw [hn.2] at hNb
    have h1 := hn.1
    have h2 := hn.2
    obtain ⟨-, x1, x2⟩ := (isNum_iff a).1 h1
    obtain ⟨-, y1, y2⟩ := (isNum_iff b).1 h2
    have hS := fun W => refSmall_at (a.n - b.n) W
    rw [hf] at hS
    have HS := Lib.hid hS
    clear hf hS
    have hX := fun W => refAs_at a W h1
    have hY := fun W => refAs_at b W h2
    clear hn h1 h2
    have HV := Lib.hid (fun W => refSub_any (asV a) (asV b) W)
    generalize asV a = x at *
    generalize asV b = y at *
    generalize asE a = ea at *
    generalize asE b = eb at *
    generalize subV x y = v at *
    generalize subE x y = u at *
    obtain ⟨a0, a1, a2, a3, a4, a5, a6, a7, a8, a9⟩ := ha
    obtain ⟨b0, b1, b2, b3, b4, b5, b6, b7, b8, b9⟩ := hb
    simp only [Nat.zero_add, Nat.reduceAdd] at *
    have hlt := World.block_lt_of_cell? w _ a0
    by_cases ha0 : ea = 0
    · subst ha0
      rw [if_pos rfl]
      by_cases hb0 : eb = 0
      · subst hb0
        rw [if_pos rfl]
        by_cases hu : u = 0
        · subst hu
          have eM : madeO 2 v 0 = okO 2 v := rfl
          rw [eM]
          clear eM
          have HG := Lib.hid (fun W => refGives_ok v W)
          obtain ⟨ka, xa, ca, na, sa, ra, fa, la⟩ := a
          obtain ⟨kb, xb, cb, nb, sb, rb, fb, lb⟩ := b
          unfold Ob.vl at *
          simp only at *
          go_enter Tryd.func12, Tryd.ntmps12
          go_wp2_with fail
          refine (hNa _).mono ?_; rintro e w1 ⟨rfl, hb1⟩
          have p10 := rule hb1 (w.heap.size) (by simp <;> omega)
          have p11 := rule hb1 (w.heap.size + 1) (by simp <;> omega)
          have HB1 := Lib.hid (bthen (below2 _ _ _ ) hb1)
          have hz1 : w.heap.size + 1 < w1.heap.size := by have := hb1.size; simp at this; omega
          clear hb1
          go_wp2_with fail
          refine (hNb _).mono ?_; rintro e w2 ⟨rfl, hb2⟩
          have p20 := rule hb2 (w.heap.size) (by omega)
          have p21 := rule hb2 (w.heap.size + 1) (by omega)
          have HB2 := Lib.hid (bthen HB1.out hb2)
          have hz2 : w.heap.size + 1 < w2.heap.size := by have := hb2.size; omega
          clear hb2
          go_wp2_with fail
          refine (HS.out _).mono ?_; rintro e w3 ⟨rfl, rfl⟩
          go_wp2_with fail
          refine (hX _).mono ?_; rintro e w3 ⟨rfl, hb3⟩
          have p30 := rule hb3 (w.heap.size) (by omega)
          have p31 := rule hb3 (w.heap.size + 1) (by omega)
          have HB3 := Lib.hid (bthen HB2.out hb3)
          have hz3 : w.heap.size + 1 < w3.heap.size := by have := hb3.size; omega
          clear hb3
          go_wp2_with fail
          refine (hY _).mono ?_; rintro e w4 ⟨rfl, hb4⟩
          have p40 := rule hb4 (w.heap.size) (by omega)
          have p41 := rule hb4 (w.heap.size + 1) (by omega)
          have HB4 := Lib.hid (bthen HB3.out hb4)
          have hz4 : w.heap.size + 1 < w4.heap.size := by have := hb4.size; omega
          clear hb4
          go_wp2_with fail
          refine (HV.out _).mono ?_; rintro e w5 ⟨rfl, rfl⟩
          have HB5 := Lib.hid HB4.out
          go_wp2_with fail
          refine (HG.out _).mono ?_; rintro e w6 ⟨bq, hbq, rfl, hro⟩
          have HRO := Lib.hid (hro.after HB5.out)
          clear hro
          go_wp2_with fail
          go_ret2
          exact HRO.out
        · have eM : madeO 2 v u = noO u := by unfold madeO; rw [if_neg hu]
          rw [eM]
          clear eM
          have HG := Lib.hid (fun W => refGives_no v u hu W)
          obtain ⟨ka, xa, ca, na, sa, ra, fa, la⟩ := a
          obtain ⟨kb, xb, cb, nb, sb, rb, fb, lb⟩ := b
          unfold Ob.vl at *
          simp only at *
          go_enter Tryd.func12, Tryd.ntmps12
          go_wp2_with fail
          refine (hNa _).mono ?_; rintro e w1 ⟨rfl, hb1⟩
          have p10 := rule hb1 (w.heap.size) (by simp <;> omega)
          have p11 := rule hb1 (w.heap.size + 1) (by simp <;> omega)
          have HB1 := Lib.hid (bthen (below2 _ _ _ ) hb1)
          have hz1 : w.heap.size + 1 < w1.heap.size := by have := hb1.size; simp at this; omega
          clear hb1
          go_wp2_with fail
          refine (hNb _).mono ?_; rintro e w2 ⟨rfl, hb2⟩
          have p20 := rule hb2 (w.heap.size) (by omega)
          have p21 := rule hb2 (w.heap.size + 1) (by omega)
          have HB2 := Lib.hid (bthen HB1.out hb2)
          have hz2 : w.heap.size + 1 < w2.heap.size := by have := hb2.size; omega
          clear hb2
          go_wp2_with fail
          refine (HS.out _).mono ?_; rintro e w3 ⟨rfl, rfl⟩
          go_wp2_with fail
          refine (hX _).mono ?_; rintro e w3 ⟨rfl, hb3⟩
          have p30 := rule hb3 (w.heap.size) (by omega)
          have p31 := rule hb3 (w.heap.size + 1) (by omega)
          have HB3 := Lib.hid (bthen HB2.out hb3)
          have hz3 : w.heap.size + 1 < w3.heap.size := by have := hb3.size; omega
          clear hb3
          go_wp2_with fail
          refine (hY _).mono ?_; rintro e w4 ⟨rfl, hb4⟩
          have p40 := rule hb4 (w.heap.size) (by omega)
          have p41 := rule hb4 (w.heap.size + 1) (by omega)
          have HB4 := Lib.hid (bthen HB3.out hb4)
          have hz4 : w.heap.size + 1 < w4.heap.size := by have := hb4.size; omega
          clear hb4
          go_wp2_with fail
          refine (HV.out _).mono ?_; rintro e w5 ⟨rfl, rfl⟩
          have HB5 := Lib.hid HB4.out
          go_wp2_with fail
          refine (HG.out _).mono ?_; rintro e w6 ⟨rfl, rfl⟩
          go_wp2_with fail
          go_ret2
          exact RefO.err hu HB5.out
      · rw [if_neg hb0]
        have hb0' : (eb == 0) = false := by simpa using hb0
        have HZ := Lib.hid hb0
        clear hb0
        obtain ⟨ka, xa, ca, na, sa, ra, fa, la⟩ := a
        obtain ⟨kb, xb, cb, nb, sb, rb, fb, lb⟩ := b
        unfold Ob.vl at *
        simp only at *
        go_enter Tryd.func12, Tryd.ntmps12
        go_wp2_with fail
        refine (hNa _).mono ?_; rintro e w1 ⟨rfl, hb1⟩
        have p10 := rule hb1 (w.heap.size) (by simp <;> omega)
        have p11 := rule hb1 (w.heap.size + 1) (by simp <;> omega)
        have HB1 := Lib.hid (bthen (below2 _ _ _ ) hb1)
        have hz1 : w.heap.size + 1 < w1.heap.size := by have := hb1.size; simp at this; omega
        clear hb1
        go_wp2_with fail
        refine (hNb _).mono ?_; rintro e w2 ⟨rfl, hb2⟩
        have p20 := rule hb2 (w.heap.size) (by omega)
        have p21 := rule hb2 (w.heap.size + 1) (by omega)
        have HB2 := Lib.hid (bthen HB1.out hb2)
        have hz2 : w.heap.size + 1 < w2.heap.size := by have := hb2.size; omega
        clear hb2
        go_wp2_with fail
        refine (HS.out _).mono ?_; rintro e w3 ⟨rfl, rfl⟩
        go_wp2_with fail
        refine (hX _).mono ?_; rintro e w3 ⟨rfl, hb3⟩
        have p30 := rule hb3 (w.heap.size) (by omega)
        have p31 := rule hb3 (w.heap.size + 1) (by omega)
        have HB3 := Lib.hid (bthen HB2.out hb3)
        have hz3 : w.heap.size + 1 < w3.heap.size := by have := hb3.size; omega
        clear hb3
        go_wp2_with fail
        refine (hY _).mono ?_; rintro e w4 ⟨rfl, hb4⟩
        have p40 := rule hb4 (w.heap.size) (by omega)
        have p41 := rule hb4 (w.heap.size + 1) (by omega)
        have HB4 := Lib.hid (bthen HB3.out hb4)
        have hz4 : w.heap.size + 1 < w4.heap.size := by have := hb4.size; omega
        clear hb4
        go_wp2_with fail
        go_ret2
        exact RefO.err HZ.out HB4.out
    · rw [if_neg ha0]
      have ha0' : (ea == 0) = false := by simpa using ha0
      have HZ := Lib.hid ha0
      clear ha0
      obtain ⟨ka, xa, ca, na, sa, ra, fa, la⟩ := a
      obtain ⟨kb, xb, cb, nb, sb, rb, fb, lb⟩ := b
      unfold Ob.vl at *
      simp only at *
      go_enter Tryd.func12, Tryd.ntmps12
      go_wp2_with fail
      refine (hNa _).mono ?_; rintro e w1 ⟨rfl, hb1⟩
      have p10 := rule hb1 (w.heap.size) (by simp <;> omega)
      have p11 := rule hb1 (w.heap.size + 1) (by simp <;> omega)
      have HB1 := Lib.hid (bthen (below2 _ _ _ ) hb1)
      have hz1 : w.heap.size + 1 < w1.heap.size := by have := hb1.size; simp at this; omega
      clear hb1
      go_wp2_with fail
      refine (hNb _).mono ?_; rintro e w2 ⟨rfl, hb2⟩
      have p20 := rule hb2 (w.heap.size) (by omega)
      have p21 := rule hb2 (w.heap.size + 1) (by omega)
      have HB2 := Lib.hid (bthen HB1.out hb2)
      have hz2 : w.heap.size + 1 < w2.heap.size := by have := hb2.size; omega
      clear hb2
      go_wp2_with fail
      refine (HS.out _).mono ?_; rintro e w3 ⟨rfl, rfl⟩
      go_wp2_with fail
      refine (hX _).mono ?_; rintro e w3 ⟨rfl, hb3⟩
      have p30 := rule hb3 (w.heap.size) (by omega)
      have p31 := rule hb3 (w.heap.size + 1) (by omega)
      have HB3 := Lib.hid (bthen HB2.out hb3)
      have hz3 : w.heap.size + 1 < w3.heap.size := by have := hb3.size; omega
      clear hb3
      go_wp2_with fail
      go_ret2
      exact RefO.err HZ.out HB3.out
set_option maxHeartbeats 4000000 in
set_option maxRecDepth 100000 in
theorem ref_sub_tf {a b : Ob} {B c : Nat} {w : World} (ha : At10 w B 0 a) (hb : At10 w B 10 b) (hn : (isNumB a && isNumB b) = true) (hka : (a.kind == 1) = true) (hkb : (b.kind == 1) = false) : Calls Tryd.prog 12 #[.string ⟨#[115, 117, 98]⟩, .slice (some ⟨B, 0, none⟩) 2 c] w fun e w' => RefO w (numO (fun x y => x - y) subV subE a b) e w' := by
    have e0 : numO (fun x y => x - y) subV subE a b = (if asE a = 0 then (if asE b = 0 then madeO 2 (subV (asV a) (asV b)) (subE (asV a) (asV b)) else noO (asE b)) else noO (asE a)) := by unfold numO; rw [if_neg (fun h => by have h2 := h.1; rw [Bool.and_eq_true] at h2; have := ((isInt_iff b).1 h2.2).1; simp [this] at hkb)]; unfold realsO; rw [if_pos hn]
    rw [e0]
    clear e0
    rw [Bool.and_eq_true] at hn
    have hNa := refNum_at a
    have hNb := refNum_at b
    rw [hn.1] at hNa
    rw [hn.2] at hNb
    have h1 := hn.1
    have h2 := hn.2
    obtain ⟨-, x1, x2⟩ := (isNum_iff a).1 h1
    obtain ⟨-, y1, y2⟩ := (isNum_iff b).1 h2
    have hX := fun W => refAs_at a W h1
    have hY := fun W => refAs_at b W h2
    clear hn h1 h2
    have HV := Lib.hid (fun W => refSub_any (asV a) (asV b) W)
    generalize asV a = x at *
    generalize asV b = y at *
    generalize asE a = ea at *
    generalize asE b = eb at *
    generalize subV x y = v at *
    generalize subE x y = u at *
    obtain ⟨a0, a1, a2, a3, a4, a5, a6, a7, a8, a9⟩ := ha
    obtain ⟨b0, b1, b2, b3, b4, b5, b6, b7, b8, b9⟩ := hb
    simp only [Nat.zero_add, Nat.reduceAdd] at *
    have hlt := World.block_lt_of_cell? w _ a0
    by_cases ha0 : ea = 0
    · subst ha0
      rw [if_pos rfl]
      by_cases hb0 : eb = 0
      · subst hb0
        rw [if_pos rfl]
        by_cases hu : u = 0
        · subst hu
          have eM : madeO 2 v 0 = okO 2 v := rfl
          rw [eM]
          clear eM
          have HG := Lib.hid (fun W => refGives_ok v W)
          obtain ⟨ka, xa, ca, na, sa, ra, fa, la⟩ := a
          obtain ⟨kb, xb, cb, nb, sb, rb, fb, lb⟩ := b
          unfold Ob.vl at *
          simp only at *
          go_enter Tryd.func12, Tryd.ntmps12
          go_wp2_with fail
          refine (hNa _).mono ?_; rintro e w1 ⟨rfl, hb1⟩
          have p10 := rule hb1 (w.heap.size) (by simp <;> omega)
          have p11 := rule hb1 (w.heap.size + 1) (by simp <;> omega)
          have HB1 := Lib.hid (bthen (below2 _ _ _ ) hb1)
          have hz1 : w.heap.size + 1 < w1.heap.size := by have := hb1.size; simp at this; omega
          clear hb1
          go_wp2_with fail
          refine (hNb _).mono ?_; rintro e w2 ⟨rfl, hb2⟩
          have p20 := rule hb2 (w.heap.size) (by omega)
          have p21 := rule hb2 (w.heap.size + 1) (by omega)
          have HB2 := Lib.hid (bthen HB1.out hb2)
          have hz2 : w.heap.size + 1 < w2.heap.size := by have := hb2.size; omega
          clear hb2
          go_wp2_with fail
          refine (hX _).mono ?_; rintro e w3 ⟨rfl, hb3⟩
          have p30 := rule hb3 (w.heap.size) (by omega)
          have p31 := rule hb3 (w.heap.size + 1) (by omega)
          have HB3 := Lib.hid (bthen HB2.out hb3)
          have hz3 : w.heap.size + 1 < w3.heap.size := by have := hb3.size; omega
          clear hb3
          go_wp2_with fail
          refine (hY _).mono ?_; rintro e w4 ⟨rfl, hb4⟩
          have p40 := rule hb4 (w.heap.size) (by omega)
          have p41 := rule hb4 (w.heap.size + 1) (by omega)
          have HB4 := Lib.hid (bthen HB3.out hb4)
          have hz4 : w.heap.size + 1 < w4.heap.size := by have := hb4.size; omega
          clear hb4
          go_wp2_with fail
          refine (HV.out _).mono ?_; rintro e w5 ⟨rfl, rfl⟩
          have HB5 := Lib.hid HB4.out
          go_wp2_with fail
          refine (HG.out _).mono ?_; rintro e w6 ⟨bq, hbq, rfl, hro⟩
          have HRO := Lib.hid (hro.after HB5.out)
          clear hro
          go_wp2_with fail
          go_ret2
          exact HRO.out
        · have eM : madeO 2 v u = noO u := by unfold madeO; rw [if_neg hu]
          rw [eM]
          clear eM
          have HG := Lib.hid (fun W => refGives_no v u hu W)
          obtain ⟨ka, xa, ca, na, sa, ra, fa, la⟩ := a
          obtain ⟨kb, xb, cb, nb, sb, rb, fb, lb⟩ := b
          unfold Ob.vl at *
          simp only at *
          go_enter Tryd.func12, Tryd.ntmps12
          go_wp2_with fail
          refine (hNa _).mono ?_; rintro e w1 ⟨rfl, hb1⟩
          have p10 := rule hb1 (w.heap.size) (by simp <;> omega)
          have p11 := rule hb1 (w.heap.size + 1) (by simp <;> omega)
          have HB1 := Lib.hid (bthen (below2 _ _ _ ) hb1)
          have hz1 : w.heap.size + 1 < w1.heap.size := by have := hb1.size; simp at this; omega
          clear hb1
          go_wp2_with fail
          refine (hNb _).mono ?_; rintro e w2 ⟨rfl, hb2⟩
          have p20 := rule hb2 (w.heap.size) (by omega)
          have p21 := rule hb2 (w.heap.size + 1) (by omega)
          have HB2 := Lib.hid (bthen HB1.out hb2)
          have hz2 : w.heap.size + 1 < w2.heap.size := by have := hb2.size; omega
          clear hb2
          go_wp2_with fail
          refine (hX _).mono ?_; rintro e w3 ⟨rfl, hb3⟩
          have p30 := rule hb3 (w.heap.size) (by omega)
          have p31 := rule hb3 (w.heap.size + 1) (by omega)
          have HB3 := Lib.hid (bthen HB2.out hb3)
          have hz3 : w.heap.size + 1 < w3.heap.size := by have := hb3.size; omega
          clear hb3
          go_wp2_with fail
          refine (hY _).mono ?_; rintro e w4 ⟨rfl, hb4⟩
          have p40 := rule hb4 (w.heap.size) (by omega)
          have p41 := rule hb4 (w.heap.size + 1) (by omega)
          have HB4 := Lib.hid (bthen HB3.out hb4)
          have hz4 : w.heap.size + 1 < w4.heap.size := by have := hb4.size; omega
          clear hb4
          go_wp2_with fail
          refine (HV.out _).mono ?_; rintro e w5 ⟨rfl, rfl⟩
          have HB5 := Lib.hid HB4.out
          go_wp2_with fail
          refine (HG.out _).mono ?_; rintro e w6 ⟨rfl, rfl⟩
          go_wp2_with fail
          go_ret2
          exact RefO.err hu HB5.out
      · rw [if_neg hb0]
        have hb0' : (eb == 0) = false := by simpa using hb0
        have HZ := Lib.hid hb0
        clear hb0
        obtain ⟨ka, xa, ca, na, sa, ra, fa, la⟩ := a
        obtain ⟨kb, xb, cb, nb, sb, rb, fb, lb⟩ := b
        unfold Ob.vl at *
        simp only at *
        go_enter Tryd.func12, Tryd.ntmps12
        go_wp2_with fail
        refine (hNa _).mono ?_; rintro e w1 ⟨rfl, hb1⟩
        have p10 := rule hb1 (w.heap.size) (by simp <;> omega)
        have p11 := rule hb1 (w.heap.size + 1) (by simp <;> omega)
        have HB1 := Lib.hid (bthen (below2 _ _ _ ) hb1)
        have hz1 : w.heap.size + 1 < w1.heap.size := by have := hb1.size; simp at this; omega
        clear hb1
        go_wp2_with fail
        refine (hNb _).mono ?_; rintro e w2 ⟨rfl, hb2⟩
        have p20 := rule hb2 (w.heap.size) (by omega)
        have p21 := rule hb2 (w.heap.size + 1) (by omega)
        have HB2 := Lib.hid (bthen HB1.out hb2)
        have hz2 : w.heap.size + 1 < w2.heap.size := by have := hb2.size; omega
        clear hb2
        go_wp2_with fail
        refine (hX _).mono ?_; rintro e w3 ⟨rfl, hb3⟩
        have p30 := rule hb3 (w.heap.size) (by omega)
        have p31 := rule hb3 (w.heap.size + 1) (by omega)
        have HB3 := Lib.hid (bthen HB2.out hb3)
        have hz3 : w.heap.size + 1 < w3.heap.size := by have := hb3.size; omega
        clear hb3
        go_wp2_with fail
        refine (hY _).mono ?_; rintro e w4 ⟨rfl, hb4⟩
        have p40 := rule hb4 (w.heap.size) (by omega)
        have p41 := rule hb4 (w.heap.size + 1) (by omega)
        have HB4 := Lib.hid (bthen HB3.out hb4)
        have hz4 : w.heap.size + 1 < w4.heap.size := by have := hb4.size; omega
        clear hb4
        go_wp2_with fail
        go_ret2
        exact RefO.err HZ.out HB4.out
    · rw [if_neg ha0]
      have ha0' : (ea == 0) = false := by simpa using ha0
      have HZ := Lib.hid ha0
      clear ha0
      obtain ⟨ka, xa, ca, na, sa, ra, fa, la⟩ := a
      obtain ⟨kb, xb, cb, nb, sb, rb, fb, lb⟩ := b
      unfold Ob.vl at *
      simp only at *
      go_enter Tryd.func12, Tryd.ntmps12
      go_wp2_with fail
      refine (hNa _).mono ?_; rintro e w1 ⟨rfl, hb1⟩
      have p10 := rule hb1 (w.heap.size) (by simp <;> omega)
      have p11 := rule hb1 (w.heap.size + 1) (by simp <;> omega)
      have HB1 := Lib.hid (bthen (below2 _ _ _ ) hb1)
      have hz1 : w.heap.size + 1 < w1.heap.size := by have := hb1.size; simp at this; omega
      clear hb1
      go_wp2_with fail
      refine (hNb _).mono ?_; rintro e w2 ⟨rfl, hb2⟩
      have p20 := rule hb2 (w.heap.size) (by omega)
      have p21 := rule hb2 (w.heap.size + 1) (by omega)
      have HB2 := Lib.hid (bthen HB1.out hb2)
      have hz2 : w.heap.size + 1 < w2.heap.size := by have := hb2.size; omega
      clear hb2
      go_wp2_with fail
      refine (hX _).mono ?_; rintro e w3 ⟨rfl, hb3⟩
      have p30 := rule hb3 (w.heap.size) (by omega)
      have p31 := rule hb3 (w.heap.size + 1) (by omega)
      have HB3 := Lib.hid (bthen HB2.out hb3)
      have hz3 : w.heap.size + 1 < w3.heap.size := by have := hb3.size; omega
      clear hb3
      go_wp2_with fail
      go_ret2
      exact RefO.err HZ.out HB3.out
set_option maxHeartbeats 4000000 in
set_option maxRecDepth 100000 in
theorem ref_sub_f {a b : Ob} {B c : Nat} {w : World} (ha : At10 w B 0 a) (hb : At10 w B 10 b) (hn : (isNumB a && isNumB b) = true) (hka : (a.kind == 1) = false) : Calls Tryd.prog 12 #[.string ⟨#[115, 117, 98]⟩, .slice (some ⟨B, 0, none⟩) 2 c] w fun e w' => RefO w (numO (fun x y => x - y) subV subE a b) e w' := by
    have e0 : numO (fun x y => x - y) subV subE a b = (if asE a = 0 then (if asE b = 0 then madeO 2 (subV (asV a) (asV b)) (subE (asV a) (asV b)) else noO (asE b)) else noO (asE a)) := by unfold numO; rw [if_neg (fun h => by have h2 := h.1; rw [Bool.and_eq_true] at h2; have := ((isInt_iff a).1 h2.1).1; simp [this] at hka)]; unfold realsO; rw [if_pos hn]
    rw [e0]
    clear e0
    rw [Bool.and_eq_true] at hn
    have hNa := refNum_at a
    have hNb := refNum_at b
    rw [hn.1] at hNa
    rw [hn.2] at hNb
    have h1 := hn.1
    have h2 := hn.2
    obtain ⟨-, x1, x2⟩ := (isNum_iff a).1 h1
    obtain ⟨-, y1, y2⟩ := (isNum_iff b).1 h2
    have hX := fun W => refAs_at a W h1
    have hY := fun W => refAs_at b W h2
    clear hn h1 h2
    have HV := Lib.hid (fun W => refSub_any (asV a) (asV b) W)
    generalize asV a = x at *
    generalize asV b = y at *
    generalize asE a = ea at *
    generalize asE b = eb at *
    generalize subV x y = v at *
    generalize subE x y = u at *
    obtain ⟨a0, a1, a2, a3, a4, a5, a6, a7, a8, a9⟩ := ha
    obtain ⟨b0, b1, b2, b3, b4, b5, b6, b7, b8, b9⟩ := hb
    simp only [Nat.zero_add, Nat.reduceAdd] at *
    have hlt := World.block_lt_of_cell? w _ a0
    by_cases ha0 : ea = 0
    · subst ha0
      rw [if_pos rfl]
      by_cases hb0 : eb = 0
      · subst hb0
        rw [if_pos rfl]
        by_cases hu : u = 0
        · subst hu
          have eM : madeO 2 v 0 = okO 2 v := rfl
          rw [eM]
          clear eM
          have HG := Lib.hid (fun W => refGives_ok v W)
          obtain ⟨ka, xa, ca, na, sa, ra, fa, la⟩ := a
          obtain ⟨kb, xb, cb, nb, sb, rb, fb, lb⟩ := b
          unfold Ob.vl at *
          simp only at *
          go_enter Tryd.func12, Tryd.ntmps12
          go_wp2_with fail
          refine (hNa _).mono ?_; rintro e w1 ⟨rfl, hb1⟩
          have p10 := rule hb1 (w.heap.size) (by simp <;> omega)
          have p11 := rule hb1 (w.heap.size + 1) (by simp <;> omega)
          have HB1 := Lib.hid (bthen (below2 _ _ _ ) hb1)
          have hz1 : w.heap.size + 1 < w1.heap.size := by have := hb1.size; simp at this; omega
          clear hb1
          go_wp2_with fail
          refine (hNb _).mono ?_; rintro e w2 ⟨rfl, hb2⟩
          have p20 := rule hb2 (w.heap.size) (by omega)
          have p21 := rule hb2 (w.heap.size + 1) (by omega)
          have HB2 := Lib.hid (bthen HB1.out hb2)
          have hz2 : w.heap.size + 1 < w2.heap.size := by have := hb2.size; omega
          clear hb2
          go_wp2_with fail
          refine (hX _).mono ?_; rintro e w3 ⟨rfl, hb3⟩
          have p30 := rule hb3 (w.heap.size) (by omega)
          have p31 := rule hb3 (w.heap.size + 1) (by omega)
          have HB3 := Lib.hid (bthen HB2.out hb3)
          have hz3 : w.heap.size + 1 < w3.heap.size := by have := hb3.size; omega
          clear hb3
          go_wp2_with fail
          refine (hY _).mono ?_; rintro e w4 ⟨rfl, hb4⟩
          have p40 := rule hb4 (w.heap.size) (by omega)
          have p41 := rule hb4 (w.heap.size + 1) (by omega)
          have HB4 := Lib.hid (bthen HB3.out hb4)
          have hz4 : w.heap.size + 1 < w4.heap.size := by have := hb4.size; omega
          clear hb4
          go_wp2_with fail
          refine (HV.out _).mono ?_; rintro e w5 ⟨rfl, rfl⟩
          have HB5 := Lib.hid HB4.out
          go_wp2_with fail
          refine (HG.out _).mono ?_; rintro e w6 ⟨bq, hbq, rfl, hro⟩
          have HRO := Lib.hid (hro.after HB5.out)
          clear hro
          go_wp2_with fail
          go_ret2
          exact HRO.out
        · have eM : madeO 2 v u = noO u := by unfold madeO; rw [if_neg hu]
          rw [eM]
          clear eM
          have HG := Lib.hid (fun W => refGives_no v u hu W)
          obtain ⟨ka, xa, ca, na, sa, ra, fa, la⟩ := a
          obtain ⟨kb, xb, cb, nb, sb, rb, fb, lb⟩ := b
          unfold Ob.vl at *
          simp only at *
          go_enter Tryd.func12, Tryd.ntmps12
          go_wp2_with fail
          refine (hNa _).mono ?_; rintro e w1 ⟨rfl, hb1⟩
          have p10 := rule hb1 (w.heap.size) (by simp <;> omega)
          have p11 := rule hb1 (w.heap.size + 1) (by simp <;> omega)
          have HB1 := Lib.hid (bthen (below2 _ _ _ ) hb1)
          have hz1 : w.heap.size + 1 < w1.heap.size := by have := hb1.size; simp at this; omega
          clear hb1
          go_wp2_with fail
          refine (hNb _).mono ?_; rintro e w2 ⟨rfl, hb2⟩
          have p20 := rule hb2 (w.heap.size) (by omega)
          have p21 := rule hb2 (w.heap.size + 1) (by omega)
          have HB2 := Lib.hid (bthen HB1.out hb2)
          have hz2 : w.heap.size + 1 < w2.heap.size := by have := hb2.size; omega
          clear hb2
          go_wp2_with fail
          refine (hX _).mono ?_; rintro e w3 ⟨rfl, hb3⟩
          have p30 := rule hb3 (w.heap.size) (by omega)
          have p31 := rule hb3 (w.heap.size + 1) (by omega)
          have HB3 := Lib.hid (bthen HB2.out hb3)
          have hz3 : w.heap.size + 1 < w3.heap.size := by have := hb3.size; omega
          clear hb3
          go_wp2_with fail
          refine (hY _).mono ?_; rintro e w4 ⟨rfl, hb4⟩
          have p40 := rule hb4 (w.heap.size) (by omega)
          have p41 := rule hb4 (w.heap.size + 1) (by omega)
          have HB4 := Lib.hid (bthen HB3.out hb4)
          have hz4 : w.heap.size + 1 < w4.heap.size := by have := hb4.size; omega
          clear hb4
          go_wp2_with fail
          refine (HV.out _).mono ?_; rintro e w5 ⟨rfl, rfl⟩
          have HB5 := Lib.hid HB4.out
          go_wp2_with fail
          refine (HG.out _).mono ?_; rintro e w6 ⟨rfl, rfl⟩
          go_wp2_with fail
          go_ret2
          exact RefO.err hu HB5.out
      · rw [if_neg hb0]
        have hb0' : (eb == 0) = false := by simpa using hb0
        have HZ := Lib.hid hb0
        clear hb0
        obtain ⟨ka, xa, ca, na, sa, ra, fa, la⟩ := a
        obtain ⟨kb, xb, cb, nb, sb, rb, fb, lb⟩ := b
        unfold Ob.vl at *
        simp only at *
        go_enter Tryd.func12, Tryd.ntmps12
        go_wp2_with fail
        refine (hNa _).mono ?_; rintro e w1 ⟨rfl, hb1⟩
        have p10 := rule hb1 (w.heap.size) (by simp <;> omega)
        have p11 := rule hb1 (w.heap.size + 1) (by simp <;> omega)
        have HB1 := Lib.hid (bthen (below2 _ _ _ ) hb1)
        have hz1 : w.heap.size + 1 < w1.heap.size := by have := hb1.size; simp at this; omega
        clear hb1
        go_wp2_with fail
        refine (hNb _).mono ?_; rintro e w2 ⟨rfl, hb2⟩
        have p20 := rule hb2 (w.heap.size) (by omega)
        have p21 := rule hb2 (w.heap.size + 1) (by omega)
        have HB2 := Lib.hid (bthen HB1.out hb2)
        have hz2 : w.heap.size + 1 < w2.heap.size := by have := hb2.size; omega
        clear hb2
        go_wp2_with fail
        refine (hX _).mono ?_; rintro e w3 ⟨rfl, hb3⟩
        have p30 := rule hb3 (w.heap.size) (by omega)
        have p31 := rule hb3 (w.heap.size + 1) (by omega)
        have HB3 := Lib.hid (bthen HB2.out hb3)
        have hz3 : w.heap.size + 1 < w3.heap.size := by have := hb3.size; omega
        clear hb3
        go_wp2_with fail
        refine (hY _).mono ?_; rintro e w4 ⟨rfl, hb4⟩
        have p40 := rule hb4 (w.heap.size) (by omega)
        have p41 := rule hb4 (w.heap.size + 1) (by omega)
        have HB4 := Lib.hid (bthen HB3.out hb4)
        have hz4 : w.heap.size + 1 < w4.heap.size := by have := hb4.size; omega
        clear hb4
        go_wp2_with fail
        go_ret2
        exact RefO.err HZ.out HB4.out
    · rw [if_neg ha0]
      have ha0' : (ea == 0) = false := by simpa using ha0
      have HZ := Lib.hid ha0
      clear ha0
      obtain ⟨ka, xa, ca, na, sa, ra, fa, la⟩ := a
      obtain ⟨kb, xb, cb, nb, sb, rb, fb, lb⟩ := b
      unfold Ob.vl at *
      simp only at *
      go_enter Tryd.func12, Tryd.ntmps12
      go_wp2_with fail
      refine (hNa _).mono ?_; rintro e w1 ⟨rfl, hb1⟩
      have p10 := rule hb1 (w.heap.size) (by simp <;> omega)
      have p11 := rule hb1 (w.heap.size + 1) (by simp <;> omega)
      have HB1 := Lib.hid (bthen (below2 _ _ _ ) hb1)
      have hz1 : w.heap.size + 1 < w1.heap.size := by have := hb1.size; simp at this; omega
      clear hb1
      go_wp2_with fail
      refine (hNb _).mono ?_; rintro e w2 ⟨rfl, hb2⟩
      have p20 := rule hb2 (w.heap.size) (by omega)
      have p21 := rule hb2 (w.heap.size + 1) (by omega)
      have HB2 := Lib.hid (bthen HB1.out hb2)
      have hz2 : w.heap.size + 1 < w2.heap.size := by have := hb2.size; omega
      clear hb2
      go_wp2_with fail
      refine (hX _).mono ?_; rintro e w3 ⟨rfl, hb3⟩
      have p30 := rule hb3 (w.heap.size) (by omega)
      have p31 := rule hb3 (w.heap.size + 1) (by omega)
      have HB3 := Lib.hid (bthen HB2.out hb3)
      have hz3 : w.heap.size + 1 < w3.heap.size := by have := hb3.size; omega
      clear hb3
      go_wp2_with fail
      go_ret2
      exact RefO.err HZ.out HB3.out
theorem ref_sub {a b : Ob} {B c : Nat} {w : World} (ha : At10 w B 0 a) (hb : At10 w B 10 b) : Calls Tryd.prog 12 #[.string ⟨#[115, 117, 98]⟩, .slice (some ⟨B, 0, none⟩) 2 c] w fun e w' => RefO w (numO (fun x y => x - y) subV subE a b) e w' := by
  cases hn : (isNumB a && isNumB b)
  · exact ref_sub_no ha hb hn
  · cases hka : (a.kind == 1)
    · exact ref_sub_f ha hb hn hka
    · cases hkb : (b.kind == 1)
      · exact ref_sub_tf ha hb hn hka hkb
      · cases hf : fits (a.n - b.n)
        · exact ref_sub_tt ha hb hn hka hkb hf
        · refine ref_sub_int ha hb ?_ hf
          rw [Bool.and_eq_true] at hn ⊢
          exact ⟨(isInt_iff a).2 ⟨by simpa using hka, ((isNum_iff a).1 hn.1).2⟩, (isInt_iff b).2 ⟨by simpa using hkb, ((isNum_iff b).1 hn.2).2⟩⟩
end Ari
end Go.Proofs.YtgbpldfcahajeaaDoor
namespace Go.Proofs.YtgbpldfcahajeaaDoor
open Go.RowKit
open Fx
namespace Ari
set_option maxHeartbeats 2000000 in
set_option maxRecDepth 100000 in
theorem ref_mul_no {a b : Ob} {B c : Nat} {w : World} (ha : At10 w B 0 a) (hb : At10 w B 10 b) (hn : (isNumB a && isNumB b) = false) : Calls Tryd.prog 12 #[.string ⟨#[109, 117, 108]⟩, .slice (some ⟨B, 0, none⟩) 2 c] w fun e w' => RefO w (numO (fun x y => x * y) mulV mulE a b) e w' := by
    have hi : (isIntB a && isIntB b) = false := by cases h1 : isIntB a <;> cases h2 : isIntB b <;> simp_all [isInt_num]
    have e0 : numO (fun x y => x * y) mulV mulE a b = noO 16 := by unfold numO; rw [hi, if_neg (by simp)]; unfold realsO; rw [hn]; rfl
    rw [e0]
    clear e0 hi
    have hNa := refNum_at a
    have hNb := refNum_at b
    obtain ⟨a0, a1, a2, a3, a4, a5, a6, a7, a8, a9⟩ := ha
    obtain ⟨b0, b1, b2, b3, b4, b5, b6, b7, b8, b9⟩ := hb
    simp only [Nat.zero_add, Nat.reduceAdd] at *
    have hlt := World.block_lt_of_cell? w _ a0
    cases h1 : isNumB a
    · rw [h1] at hNa
      clear h1 hn hNb
      obtain ⟨ka, xa, ca, na, sa, ra, fa, la⟩ := a
      obtain ⟨kb, xb, cb, nb, sb, rb, fb, lb⟩ := b
      unfold Ob.vl at *
      simp only at *
      go_enter Tryd.func12, Tryd.ntmps12
      go_wp2_with fail
      refine (hNa _).mono ?_; rintro e w1 ⟨rfl, hb1⟩
      have p10 := rule hb1 (w.heap.size) (by simp <;> omega)
      have p11 := rule hb1 (w.heap.size + 1) (by simp <;> omega)
      have HB1 := Lib.hid (bthen (below2 _ _ _ ) hb1)
      have hz1 : w.heap.size + 1 < w1.heap.size := by have := hb1.size; simp at this; omega
      clear hb1
      go_wp2_with fail
      go_ret2
      exact RefO.err (by decide) HB1.out
    · have h2 : isNumB b = false := by rw [h1] at hn; simpa using hn
      rw [h1] at hNa
      rw [h2] at hNb
      clear h1 h2 hn
      obtain ⟨ka, xa, ca, na, sa, ra, fa, la⟩ := a
      obtain ⟨kb, xb, cb, nb, sb, rb, fb, lb⟩ := b
      unfold Ob.vl at *
      simp only at *
      go_enter Tryd.func12, Tryd.ntmps12
      go_wp2_with fail
      refine (hNa _).mono ?_; rintro e w1 ⟨rfl, hb1⟩
      have p10 := rule hb1 (w.heap.size) (by simp <;> omega)
      have p11 := rule hb1 (w.heap.size + 1) (by simp <;> omega)
      have HB1 := Lib.hid (bthen (below2 _ _ _ ) hb1)
      have hz1 : w.heap.size + 1 < w1.heap.size := by have := hb1.size; simp at this; omega
      clear hb1
      go_wp2_with fail
      refine (hNb _).mono ?_; rintro e w2 ⟨rfl, hb2⟩
      have p20 := rule hb2 (w.heap.size) (by omega)
      have p21 := rule hb2 (w.heap.size + 1) (by omega)
      have HB2 := Lib.hid (bthen HB1.out hb2)
      have hz2 : w.heap.size + 1 < w2.heap.size := by have := hb2.size; omega
      clear hb2
      go_wp2_with fail
      go_ret2
      exact RefO.err (by decide) HB2.out
set_option maxHeartbeats 2000000 in
set_option maxRecDepth 100000 in
theorem ref_mul_int {a b : Ob} {B c : Nat} {w : World} (ha : At10 w B 0 a) (hb : At10 w B 10 b) (hi : (isIntB a && isIntB b) = true) (hf : fits (a.n * b.n) = true) : Calls Tryd.prog 12 #[.string ⟨#[109, 117, 108]⟩, .slice (some ⟨B, 0, none⟩) 2 c] w fun e w' => RefO w (numO (fun x y => x * y) mulV mulE a b) e w' := by
    have e0 : numO (fun x y => x * y) mulV mulE a b = okO 1 (a.n * b.n) := by unfold numO; rw [if_pos ⟨hi, hf⟩]
    rw [e0]
    clear e0
    have hka : (a.kind == 1) = true := by rw [Bool.and_eq_true] at hi; have := ((isInt_iff a).1 hi.1).1; simp [this]
    have hkb : (b.kind == 1) = true := by rw [Bool.and_eq_true] at hi; have := ((isInt_iff b).1 hi.2).1; simp [this]
    have hn : (isNumB a && isNumB b) = true := by rw [Bool.and_eq_true] at hi ⊢; exact ⟨isInt_num hi.1, isInt_num hi.2⟩
    clear hi
    rw [Bool.and_eq_true] at hn
    have hNa := refNum_at a
    have hNb := refNum_at b
    rw [hn.1] at hNa
    rw [hn.2] at hNb
    have h1 := hn.1
    have h2 := hn.2
    obtain ⟨-, x1, x2⟩ := (isNum_iff a).1 h1
    obtain ⟨-, y1, y2⟩ := (isNum_iff b).1 h2
    obtain ⟨z1, z2⟩ := prod_bd a.n b.n (by omega) (by omega) (by omega) (by omega)
    have hS := fun W => refSmall_at (a.n * b.n) W
    rw [hf] at hS
    have HS := Lib.hid hS
    have HW := Lib.hid (fun W => refWhole_at (a.n * b.n) W)
    have HO := Lib.hid (fun W => refOne_at 1 (a.n * b.n) W)
    clear hn h1 h2 hf hS
    obtain ⟨a0, a1, a2, a3, a4, a5, a6, a7, a8, a9⟩ := ha
    obtain ⟨b0, b1, b2, b3, b4, b5, b6, b7, b8, b9⟩ := hb
    simp only [Nat.zero_add, Nat.reduceAdd] at *
    have hlt := World.block_lt_of_cell? w _ a0
    obtain ⟨ka, xa, ca, na, sa, ra, fa, la⟩ := a
    obtain ⟨kb, xb, cb, nb, sb, rb, fb, lb⟩ := b
    unfold mk Ob.vl at *
    simp only at *
    go_enter Tryd.func12, Tryd.ntmps12
    go_wp2_with fail
    refine (hNa _).mono ?_; rintro e w1 ⟨rfl, hb1⟩
    have p10 := rule hb1 (w.heap.size) (by simp <;> omega)
    have p11 := rule hb1 (w.heap.size + 1) (by simp <;> omega)
    have HB1 := Lib.hid (bthen (below2 _ _ _ ) hb1)
    have hz1 : w.heap.size + 1 < w1.heap.size := by have := hb1.size; simp at this; omega
    clear hb1
    go_wp2_with fail
    refine (hNb _).mono ?_; rintro e w2 ⟨rfl, hb2⟩
    have p20 := rule hb2 (w.heap.size) (by omega)
    have p21 := rule hb2 (w.heap.size + 1) (by omega)
    have HB2 := Lib.hid (bthen HB1.out hb2)
    have hz2 : w.heap.size + 1 < w2.heap.size := by have := hb2.size; omega
    clear hb2
    go_wp2_with fail
    refine (HS.out _).mono ?_; rintro e w3 ⟨rfl, rfl⟩
    go_wp2_with fail
    refine (HW.out _).mono ?_; rintro e w3 ⟨rfl, hb3⟩
    have HB3 := Lib.hid (bthen HB2.out hb3)
    clear hb3
    go_wp2_with fail
    refine (HO.out _).mono ?_; rintro e w4 ⟨bq, hbq, rfl, hro⟩
    have HRO := Lib.hid (hro.after HB3.out)
    clear hro
    go_wp2_with fail
    go_ret2
    exact HRO.out
set_option maxHeartbeats 4000000 in
set_option maxRecDepth 100000 in
theorem ref_mul_tt {a b : Ob} {B c : Nat} {w : World} (ha : At10 w B 0 a) (hb : At10 w B 10 b) (hn : (isNumB a && isNumB b) = true) (hka : (a.kind == 1) = true) (hkb : (b.kind == 1) = true) (hf : fits (a.n * b.n) = false) : Calls Tryd.prog 12 #[.string ⟨#[109, 117, 108]⟩, .slice (some ⟨B, 0, none⟩) 2 c] w fun e w' => RefO w (numO (fun x y => x * y) mulV mulE a b) e w' := by
    have e0 : numO (fun x y => x * y) mulV mulE a b = (if asE a = 0 then (if asE b = 0 then madeO 2 (mulV (asV a) (asV b)) (mulE (asV a) (asV b)) else noO (asE b)) else noO (asE a)) := by unfold numO; rw [if_neg (fun h => by rw [hf] at h; cases h.2)]; unfold realsO; rw [if_pos hn]
    rw [e0]
    clear e0
    rw [Bool.and_eq_true] at hn
    have hNa := refNum_at a
    have hNb := refNum_at b
    rw [hn.1] at hNa
    rw [hn.2] at hNb
    have h1 := hn.1
    have h2 := hn.2
    obtain ⟨-, x1, x2⟩ := (isNum_iff a).1 h1
    obtain ⟨-, y1, y2⟩ := (isNum_iff b).1 h2
    obtain ⟨z1, z2⟩ := prod_bd a.n b.n (by omega) (by omega) (by omega) (by omega)
    have hS := fun W => refSmall_at (a.n * b.n) W
    rw [hf] at hS
    have HS := Lib.hid hS
    clear hf hS
    have hX := fun W => refAs_at a W h1
    have hY := fun W => refAs_at b W h2
    clear hn h1 h2
    have HV := Lib.hid (fun W => refMul_any (asV a) (asV b) W)
    generalize asV a = x at *
    generalize asV b = y at *
    generalize asE a = ea at *
    generalize asE b = eb at *
    generalize mulV x y = v at *
    generalize mulE x y = u at *
    obtain ⟨a0, a1, a2, a3, a4, a5, a6, a7, a8, a9⟩ := ha
    obtain ⟨b0, b1, b2, b3, b4, b5, b6, b7, b8, b9⟩ := hb
    simp only [Nat.zero_add, Nat.reduceAdd] at *
    have hlt := World.block_lt_of_cell? w _ a0
    by_cases ha0 : ea = 0
    · subst ha0
      rw [if_pos rfl]
      by_cases hb0 : eb = 0
      · subst hb0
        rw [if_pos rfl]
        by_cases hu : u = 0
        · subst hu
          have eM : madeO 2 v 0 = okO 2 v := rfl
          rw [eM]
          clear eM
          have HG := Lib.hid (fun W => refGives_ok v W)
          obtain ⟨ka, xa, ca, na, sa, ra, fa, la⟩ := a
          obtain ⟨kb, xb, cb, nb, sb, rb, fb, lb⟩ := b
          unfold Ob.vl at *
          simp only at *
          go_enter Tryd.func12, Tryd.ntmps12
          go_wp2_with fail
          refine (hNa _).mono ?_; rintro e w1 ⟨rfl, hb1⟩
          have p10 := rule hb1 (w.heap.size) (by simp <;> omega)
          have p11 := rule hb1 (w.heap.size + 1) (by simp <;> omega)
          have HB1 := Lib.hid (bthen (below2 _ _ _ ) hb1)
          have hz1 : w.heap.size + 1 < w1.heap.size := by have := hb1.size; simp at this; omega
          clear hb1
          go_wp2_with fail
          refine (hNb _).mono ?_; rintro e w2 ⟨rfl, hb2⟩
          have p20 := rule hb2 (w.heap.size) (by omega)
          have p21 := rule hb2 (w.heap.size + 1) (by omega)
          have HB2 := Lib.hid (bthen HB1.out hb2)
          have hz2 : w.heap.size + 1 < w2.heap.size := by have := hb2.size; omega
          clear hb2
          go_wp2_with fail
          refine (HS.out _).mono ?_; rintro e w3 ⟨rfl, rfl⟩
          go_wp2_with fail
          refine (hX _).mono ?_; rintro e w3 ⟨rfl, hb3⟩
          have p30 := rule hb3 (w.heap.size) (by omega)
          have p31 := rule hb3 (w.heap.size + 1) (by omega)
          have HB3 := Lib.hid (bthen HB2.out hb3)
          have hz3 : w.heap.size + 1 < w3.heap.size := by have := hb3.size; omega
          clear hb3
          go_wp2_with fail
          refine (hY _).mono ?_; rintro e w4 ⟨rfl, hb4⟩
          have p40 := rule hb4 (w.heap.size) (by omega)
          have p41 := rule hb4 (w.heap.size + 1) (by omega)
          have HB4 := Lib.hid (bthen HB3.out hb4)
          have hz4 : w.heap.size + 1 < w4.heap.size := by have := hb4.size; omega
          clear hb4
          go_wp2_with fail
          refine (HV.out _).mono ?_; rintro e w5 ⟨rfl, kq, rfl⟩
          have HB5 := Lib.hid (below_draw HB4.out kq)
          go_wp2_with fail
          refine (HG.out _).mono ?_; rintro e w6 ⟨bq, hbq, rfl, hro⟩
          have HRO := Lib.hid (hro.after HB5.out)
          clear hro
          go_wp2_with fail
          go_ret2
          exact HRO.out
        · have eM : madeO 2 v u = noO u := by unfold madeO; rw [if_neg hu]
          rw [eM]
          clear eM
          have HG := Lib.hid (fun W => refGives_no v u hu W)
          obtain ⟨ka, xa, ca, na, sa, ra, fa, la⟩ := a
          obtain ⟨kb, xb, cb, nb, sb, rb, fb, lb⟩ := b
          unfold Ob.vl at *
          simp only at *
          go_enter Tryd.func12, Tryd.ntmps12
          go_wp2_with fail
          refine (hNa _).mono ?_; rintro e w1 ⟨rfl, hb1⟩
          have p10 := rule hb1 (w.heap.size) (by simp <;> omega)
          have p11 := rule hb1 (w.heap.size + 1) (by simp <;> omega)
          have HB1 := Lib.hid (bthen (below2 _ _ _ ) hb1)
          have hz1 : w.heap.size + 1 < w1.heap.size := by have := hb1.size; simp at this; omega
          clear hb1
          go_wp2_with fail
          refine (hNb _).mono ?_; rintro e w2 ⟨rfl, hb2⟩
          have p20 := rule hb2 (w.heap.size) (by omega)
          have p21 := rule hb2 (w.heap.size + 1) (by omega)
          have HB2 := Lib.hid (bthen HB1.out hb2)
          have hz2 : w.heap.size + 1 < w2.heap.size := by have := hb2.size; omega
          clear hb2
          go_wp2_with fail
          refine (HS.out _).mono ?_; rintro e w3 ⟨rfl, rfl⟩
          go_wp2_with fail
          refine (hX _).mono ?_; rintro e w3 ⟨rfl, hb3⟩
          have p30 := rule hb3 (w.heap.size) (by omega)
          have p31 := rule hb3 (w.heap.size + 1) (by omega)
          have HB3 := Lib.hid (bthen HB2.out hb3)
          have hz3 : w.heap.size + 1 < w3.heap.size := by have := hb3.size; omega
          clear hb3
          go_wp2_with fail
          refine (hY _).mono ?_; rintro e w4 ⟨rfl, hb4⟩
          have p40 := rule hb4 (w.heap.size) (by omega)
          have p41 := rule hb4 (w.heap.size + 1) (by omega)
          have HB4 := Lib.hid (bthen HB3.out hb4)
          have hz4 : w.heap.size + 1 < w4.heap.size := by have := hb4.size; omega
          clear hb4
          go_wp2_with fail
          refine (HV.out _).mono ?_; rintro e w5 ⟨rfl, kq, rfl⟩
          have HB5 := Lib.hid (below_draw HB4.out kq)
          go_wp2_with fail
          refine (HG.out _).mono ?_; rintro e w6 ⟨rfl, rfl⟩
          go_wp2_with fail
          go_ret2
          exact RefO.err hu HB5.out
      · rw [if_neg hb0]
        have hb0' : (eb == 0) = false := by simpa using hb0
        have HZ := Lib.hid hb0
        clear hb0
        obtain ⟨ka, xa, ca, na, sa, ra, fa, la⟩ := a
        obtain ⟨kb, xb, cb, nb, sb, rb, fb, lb⟩ := b
        unfold Ob.vl at *
        simp only at *
        go_enter Tryd.func12, Tryd.ntmps12
        go_wp2_with fail
        refine (hNa _).mono ?_; rintro e w1 ⟨rfl, hb1⟩
        have p10 := rule hb1 (w.heap.size) (by simp <;> omega)
        have p11 := rule hb1 (w.heap.size + 1) (by simp <;> omega)
        have HB1 := Lib.hid (bthen (below2 _ _ _ ) hb1)
        have hz1 : w.heap.size + 1 < w1.heap.size := by have := hb1.size; simp at this; omega
        clear hb1
        go_wp2_with fail
        refine (hNb _).mono ?_; rintro e w2 ⟨rfl, hb2⟩
        have p20 := rule hb2 (w.heap.size) (by omega)
        have p21 := rule hb2 (w.heap.size + 1) (by omega)
        have HB2 := Lib.hid (bthen HB1.out hb2)
        have hz2 : w.heap.size + 1 < w2.heap.size := by have := hb2.size; omega
        clear hb2
        go_wp2_with fail
        refine (HS.out _).mono ?_; rintro e w3 ⟨rfl, rfl⟩
        go_wp2_with fail
        refine (hX _).mono ?_; rintro e w3 ⟨rfl, hb3⟩
        have p30 := rule hb3 (w.heap.size) (by omega)
        have p31 := rule hb3 (w.heap.size + 1) (by omega)
        have HB3 := Lib.hid (bthen HB2.out hb3)
        have hz3 : w.heap.size + 1 < w3.heap.size := by have := hb3.size; omega
        clear hb3
        go_wp2_with fail
        refine (hY _).mono ?_; rintro e w4 ⟨rfl, hb4⟩
        have p40 := rule hb4 (w.heap.size) (by omega)
        have p41 := rule hb4 (w.heap.size + 1) (by omega)
        have HB4 := Lib.hid (bthen HB3.out hb4)
        have hz4 : w.heap.size + 1 < w4.heap.size := by have := hb4.size; omega
        clear hb4
        go_wp2_with fail
        go_ret2
        exact RefO.err HZ.out HB4.out
    · rw [if_neg ha0]
      have ha0' : (ea == 0) = false := by simpa using ha0
      have HZ := Lib.hid ha0
      clear ha0
      obtain ⟨ka, xa, ca, na, sa, ra, fa, la⟩ := a
      obtain ⟨kb, xb, cb, nb, sb, rb, fb, lb⟩ := b
      unfold Ob.vl at *
      simp only at *
      go_enter Tryd.func12, Tryd.ntmps12
      go_wp2_with fail
      refine (hNa _).mono ?_; rintro e w1 ⟨rfl, hb1⟩
      have p10 := rule hb1 (w.heap.size) (by simp <;> omega)
      have p11 := rule hb1 (w.heap.size + 1) (by simp <;> omega)
      have HB1 := Lib.hid (bthen (below2 _ _ _ ) hb1)
      have hz1 : w.heap.size + 1 < w1.heap.size := by have := hb1.size; simp at this; omega
      clear hb1
      go_wp2_with fail
      refine (hNb _).mono ?_; rintro e w2 ⟨rfl, hb2⟩
      have p20 := rule hb2 (w.heap.size) (by omega)
      have p21 := rule hb2 (w.heap.size + 1) (by omega)
      have HB2 := Lib.hid (bthen HB1.out hb2)
      have hz2 : w.heap.size + 1 < w2.heap.size := by have := hb2.size; omega
      clear hb2
      go_wp2_with fail
      refine (HS.out _).mono ?_; rintro e w3 ⟨rfl, rfl⟩
      go_wp2_with fail
      refine (hX _).mono ?_; rintro e w3 ⟨rfl, hb3⟩
      have p30 := rule hb3 (w.heap.size) (by omega)
      have p31 := rule hb3 (w.heap.size + 1) (by omega)
      have HB3 := Lib.hid (bthen HB2.out hb3)
      have hz3 : w.heap.size + 1 < w3.heap.size := by have := hb3.size; omega
      clear hb3
      go_wp2_with fail
      go_ret2
      exact RefO.err HZ.out HB3.out
set_option maxHeartbeats 4000000 in
set_option maxRecDepth 100000 in
theorem ref_mul_tf {a b : Ob} {B c : Nat} {w : World} (ha : At10 w B 0 a) (hb : At10 w B 10 b) (hn : (isNumB a && isNumB b) = true) (hka : (a.kind == 1) = true) (hkb : (b.kind == 1) = false) : Calls Tryd.prog 12 #[.string ⟨#[109, 117, 108]⟩, .slice (some ⟨B, 0, none⟩) 2 c] w fun e w' => RefO w (numO (fun x y => x * y) mulV mulE a b) e w' := by
    have e0 : numO (fun x y => x * y) mulV mulE a b = (if asE a = 0 then (if asE b = 0 then madeO 2 (mulV (asV a) (asV b)) (mulE (asV a) (asV b)) else noO (asE b)) else noO (asE a)) := by unfold numO; rw [if_neg (fun h => by have h2 := h.1; rw [Bool.and_eq_true] at h2; have := ((isInt_iff b).1 h2.2).1; simp [this] at hkb)]; unfold realsO; rw [if_pos hn]
    rw [e0]
    clear e0
    rw [Bool.and_eq_true] at hn
    have hNa := refNum_at a
    have hNb := refNum_at b
    rw [hn.1] at hNa
    rw [hn.2] at hNb
    have h1 := hn.1
    have h2 := hn.2
    obtain ⟨-, x1, x2⟩ := (isNum_iff a).1 h1
    obtain ⟨-, y1, y2⟩ := (isNum_iff b).1 h2
    obtain ⟨z1, z2⟩ := prod_bd a.n b.n (by omega) (by omega) (by omega) (by omega)
    have hX := fun W => refAs_at a W h1
    have hY := fun W => refAs_at b W h2
    clear hn h1 h2
    have HV := Lib.hid (fun W => refMul_any (asV a) (asV b) W)
    generalize asV a = x at *
    generalize asV b = y at *
    generalize asE a = ea at *
    generalize asE b = eb at *
    generalize mulV x y = v at *
    generalize mulE x y = u at *
    obtain ⟨a0, a1, a2, a3, a4, a5, a6, a7, a8, a9⟩ := ha
    obtain ⟨b0, b1, b2, b3, b4, b5, b6, b7, b8, b9⟩ := hb
    simp only [Nat.zero_add, Nat.reduceAdd] at *
    have hlt := World.block_lt_of_cell? w _ a0
    by_cases ha0 : ea = 0
    · subst ha0
      rw [if_pos rfl]
      by_cases hb0 : eb = 0
      · subst hb0
        rw [if_pos rfl]
        by_cases hu : u = 0
        · subst hu
          have eM : madeO 2 v 0 = okO 2 v := rfl
          rw [eM]
          clear eM
          have HG := Lib.hid (fun W => refGives_ok v W)
          obtain ⟨ka, xa, ca, na, sa, ra, fa, la⟩ := a
          obtain ⟨kb, xb, cb, nb, sb, rb, fb, lb⟩ := b
          unfold Ob.vl at *
          simp only at *
          go_enter Tryd.func12, Tryd.ntmps12
          go_wp2_with fail
          refine (hNa _).mono ?_; rintro e w1 ⟨rfl, hb1⟩
          have p10 := rule hb1 (w.heap.size) (by simp <;> omega)
          have p11 := rule hb1 (w.heap.size + 1) (by simp <;> omega)
          have HB1 := Lib.hid (bthen (below2 _ _ _ ) hb1)
          have hz1 : w.heap.size + 1 < w1.heap.size := by have := hb1.size; simp at this; omega
          clear hb1
          go_wp2_with fail
          refine (hNb _).mono ?_; rintro e w2 ⟨rfl, hb2⟩
          have p20 := rule hb2 (w.heap.size) (by omega)
          have p21 := rule hb2 (w.heap.size + 1) (by omega)
          have HB2 := Lib.hid (bthen HB1.out hb2)
          have hz2 : w.heap.size + 1 < w2.heap.size := by have := hb2.size; omega
          clear hb2
          go_wp2_with fail
          refine (hX _).mono ?_; rintro e w3 ⟨rfl, hb3⟩
          have p30 := rule hb3 (w.heap.size) (by omega)
          have p31 := rule hb3 (w.heap.size + 1) (by omega)
          have HB3 := Lib.hid (bthen HB2.out hb3)
          have hz3 : w.heap.size + 1 < w3.heap.size := by have := hb3.size; omega
          clear hb3
          go_wp2_with fail
          refine (hY _).mono ?_; rintro e w4 ⟨rfl, hb4⟩
          have p40 := rule hb4 (w.heap.size) (by omega)
          have p41 := rule hb4 (w.heap.size + 1) (by omega)
          have HB4 := Lib.hid (bthen HB3.out hb4)
          have hz4 : w.heap.size + 1 < w4.heap.size := by have := hb4.size; omega
          clear hb4
          go_wp2_with fail
          refine (HV.out _).mono ?_; rintro e w5 ⟨rfl, kq, rfl⟩
          have HB5 := Lib.hid (below_draw HB4.out kq)
          go_wp2_with fail
          refine (HG.out _).mono ?_; rintro e w6 ⟨bq, hbq, rfl, hro⟩
          have HRO := Lib.hid (hro.after HB5.out)
          clear hro
          go_wp2_with fail
          go_ret2
          exact HRO.out
        · have eM : madeO 2 v u = noO u := by unfold madeO; rw [if_neg hu]
          rw [eM]
          clear eM
          have HG := Lib.hid (fun W => refGives_no v u hu W)
          obtain ⟨ka, xa, ca, na, sa, ra, fa, la⟩ := a
          obtain ⟨kb, xb, cb, nb, sb, rb, fb, lb⟩ := b
          unfold Ob.vl at *
          simp only at *
          go_enter Tryd.func12, Tryd.ntmps12
          go_wp2_with fail
          refine (hNa _).mono ?_; rintro e w1 ⟨rfl, hb1⟩
          have p10 := rule hb1 (w.heap.size) (by simp <;> omega)
          have p11 := rule hb1 (w.heap.size + 1) (by simp <;> omega)
          have HB1 := Lib.hid (bthen (below2 _ _ _ ) hb1)
          have hz1 : w.heap.size + 1 < w1.heap.size := by have := hb1.size; simp at this; omega
          clear hb1
          go_wp2_with fail
          refine (hNb _).mono ?_; rintro e w2 ⟨rfl, hb2⟩
          have p20 := rule hb2 (w.heap.size) (by omega)
          have p21 := rule hb2 (w.heap.size + 1) (by omega)
          have HB2 := Lib.hid (bthen HB1.out hb2)
          have hz2 : w.heap.size + 1 < w2.heap.size := by have := hb2.size; omega
          clear hb2
          go_wp2_with fail
          refine (hX _).mono ?_; rintro e w3 ⟨rfl, hb3⟩
          have p30 := rule hb3 (w.heap.size) (by omega)
          have p31 := rule hb3 (w.heap.size + 1) (by omega)
          have HB3 := Lib.hid (bthen HB2.out hb3)
          have hz3 : w.heap.size + 1 < w3.heap.size := by have := hb3.size; omega
          clear hb3
          go_wp2_with fail
          refine (hY _).mono ?_; rintro e w4 ⟨rfl, hb4⟩
          have p40 := rule hb4 (w.heap.size) (by omega)
          have p41 := rule hb4 (w.heap.size + 1) (by omega)
          have HB4 := Lib.hid (bthen HB3.out hb4)
          have hz4 : w.heap.size + 1 < w4.heap.size := by have := hb4.size; omega
          clear hb4
          go_wp2_with fail
          refine (HV.out _).mono ?_; rintro e w5 ⟨rfl, kq, rfl⟩
          have HB5 := Lib.hid (below_draw HB4.out kq)
          go_wp2_with fail
          refine (HG.out _).mono ?_; rintro e w6 ⟨rfl, rfl⟩
          go_wp2_with fail
          go_ret2
          exact RefO.err hu HB5.out
      · rw [if_neg hb0]
        have hb0' : (eb == 0) = false := by simpa using hb0
        have HZ := Lib.hid hb0
        clear hb0
        obtain ⟨ka, xa, ca, na, sa, ra, fa, la⟩ := a
        obtain ⟨kb, xb, cb, nb, sb, rb, fb, lb⟩ := b
        unfold Ob.vl at *
        simp only at *
        go_enter Tryd.func12, Tryd.ntmps12
        go_wp2_with fail
        refine (hNa _).mono ?_; rintro e w1 ⟨rfl, hb1⟩
        have p10 := rule hb1 (w.heap.size) (by simp <;> omega)
        have p11 := rule hb1 (w.heap.size + 1) (by simp <;> omega)
        have HB1 := Lib.hid (bthen (below2 _ _ _ ) hb1)
        have hz1 : w.heap.size + 1 < w1.heap.size := by have := hb1.size; simp at this; omega
        clear hb1
        go_wp2_with fail
        refine (hNb _).mono ?_; rintro e w2 ⟨rfl, hb2⟩
        have p20 := rule hb2 (w.heap.size) (by omega)
        have p21 := rule hb2 (w.heap.size + 1) (by omega)
        have HB2 := Lib.hid (bthen HB1.out hb2)
        have hz2 : w.heap.size + 1 < w2.heap.size := by have := hb2.size; omega
        clear hb2
        go_wp2_with fail
        refine (hX _).mono ?_; rintro e w3 ⟨rfl, hb3⟩
        have p30 := rule hb3 (w.heap.size) (by omega)
        have p31 := rule hb3 (w.heap.size + 1) (by omega)
        have HB3 := Lib.hid (bthen HB2.out hb3)
        have hz3 : w.heap.size + 1 < w3.heap.size := by have := hb3.size; omega
        clear hb3
        go_wp2_with fail
        refine (hY _).mono ?_; rintro e w4 ⟨rfl, hb4⟩
        have p40 := rule hb4 (w.heap.size) (by omega)
        have p41 := rule hb4 (w.heap.size + 1) (by omega)
        have HB4 := Lib.hid (bthen HB3.out hb4)
        have hz4 : w.heap.size + 1 < w4.heap.size := by have := hb4.size; omega
        clear hb4
        go_wp2_with fail
        go_ret2
        exact RefO.err HZ.out HB4.out
    · rw [if_neg ha0]
      have ha0' : (ea == 0) = false := by simpa using ha0
      have HZ := Lib.hid ha0
      clear ha0
      obtain ⟨ka, xa, ca, na, sa, ra, fa, la⟩ := a
      obtain ⟨kb, xb, cb, nb, sb, rb, fb, lb⟩ := b
      unfold Ob.vl at *
      simp only at *
      go_enter Tryd.func12, Tryd.ntmps12
      go_wp2_with fail
      refine (hNa _).mono ?_; rintro e w1 ⟨rfl, hb1⟩
      have p10 := rule hb1 (w.heap.size) (by simp <;> omega)
      have p11 := rule hb1 (w.heap.size + 1) (by simp <;> omega)
      have HB1 := Lib.hid (bthen (below2 _ _ _ ) hb1)
      have hz1 : w.heap.size + 1 < w1.heap.size := by have := hb1.size; simp at this; omega
      clear hb1
      go_wp2_with fail
      refine (hNb _).mono ?_; rintro e w2 ⟨rfl, hb2⟩
      have p20 := rule hb2 (w.heap.size) (by omega)
      have p21 := rule hb2 (w.heap.size + 1) (by omega)
      have HB2 := Lib.hid (bthen HB1.out hb2)
      have hz2 : w.heap.size + 1 < w2.heap.size := by have := hb2.size; omega
      clear hb2
      go_wp2_with fail
      refine (hX _).mono ?_; rintro e w3 ⟨rfl, hb3⟩
      have p30 := rule hb3 (w.heap.size) (by omega)
      have p31 := rule hb3 (w.heap.size + 1) (by omega)
      have HB3 := Lib.hid (bthen HB2.out hb3)
      have hz3 : w.heap.size + 1 < w3.heap.size := by have := hb3.size; omega
      clear hb3
      go_wp2_with fail
      go_ret2
      exact RefO.err HZ.out HB3.out
set_option maxHeartbeats 4000000 in
set_option maxRecDepth 100000 in
theorem ref_mul_f {a b : Ob} {B c : Nat} {w : World} (ha : At10 w B 0 a) (hb : At10 w B 10 b) (hn : (isNumB a && isNumB b) = true) (hka : (a.kind == 1) = false) : Calls Tryd.prog 12 #[.string ⟨#[109, 117, 108]⟩, .slice (some ⟨B, 0, none⟩) 2 c] w fun e w' => RefO w (numO (fun x y => x * y) mulV mulE a b) e w' := by
    have e0 : numO (fun x y => x * y) mulV mulE a b = (if asE a = 0 then (if asE b = 0 then madeO 2 (mulV (asV a) (asV b)) (mulE (asV a) (asV b)) else noO (asE b)) else noO (asE a)) := by unfold numO; rw [if_neg (fun h => by have h2 := h.1; rw [Bool.and_eq_true] at h2; have := ((isInt_iff a).1 h2.1).1; simp [this] at hka)]; unfold realsO; rw [if_pos hn]
    rw [e0]
    clear e0
    rw [Bool.and_eq_true] at hn
    have hNa := refNum_at a
    have hNb := refNum_at b
    rw [hn.1] at hNa
    rw [hn.2] at hNb
    have h1 := hn.1
    have h2 := hn.2
    obtain ⟨-, x1, x2⟩ := (isNum_iff a).1 h1
    obtain ⟨-, y1, y2⟩ := (isNum_iff b).1 h2
    obtain ⟨z1, z2⟩ := prod_bd a.n b.n (by omega) (by omega) (by omega) (by omega)
    have hX := fun W => refAs_at a W h1
    have hY := fun W => refAs_at b W h2
    clear hn h1 h2
    have HV := Lib.hid (fun W => refMul_any (asV a) (asV b) W)
    generalize asV a = x at *
    generalize asV b = y at *
    generalize asE a = ea at *
    generalize asE b = eb at *
    generalize mulV x y = v at *
    generalize mulE x y = u at *
    obtain ⟨a0, a1, a2, a3, a4, a5, a6, a7, a8, a9⟩ := ha
    obtain ⟨b0, b1, b2, b3, b4, b5, b6, b7, b8, b9⟩ := hb
    simp only [Nat.zero_add, Nat.reduceAdd] at *
    have hlt := World.block_lt_of_cell? w _ a0
    by_cases ha0 : ea = 0
    · subst ha0
      rw [if_pos rfl]
      by_cases hb0 : eb = 0
      · subst hb0
        rw [if_pos rfl]
        by_cases hu : u = 0
        · subst hu
          have eM : madeO 2 v 0 = okO 2 v := rfl
          rw [eM]
          clear eM
          have HG := Lib.hid (fun W => refGives_ok v W)
          obtain ⟨ka, xa, ca, na, sa, ra, fa, la⟩ := a
          obtain ⟨kb, xb, cb, nb, sb, rb, fb, lb⟩ := b
          unfold Ob.vl at *
          simp only at *
          go_enter Tryd.func12, Tryd.ntmps12
          go_wp2_with fail
          refine (hNa _).mono ?_; rintro e w1 ⟨rfl, hb1⟩
          have p10 := rule hb1 (w.heap.size) (by simp <;> omega)
          have p11 := rule hb1 (w.heap.size + 1) (by simp <;> omega)
          have HB1 := Lib.hid (bthen (below2 _ _ _ ) hb1)
          have hz1 : w.heap.size + 1 < w1.heap.size := by have := hb1.size; simp at this; omega
          clear hb1
          go_wp2_with fail
          refine (hNb _).mono ?_; rintro e w2 ⟨rfl, hb2⟩
          have p20 := rule hb2 (w.heap.size) (by omega)
          have p21 := rule hb2 (w.heap.size + 1) (by omega)
          have HB2 := Lib.hid (bthen HB1.out hb2)
          have hz2 : w.heap.size + 1 < w2.heap.size := by have := hb2.size; omega
          clear hb2
          go_wp2_with fail
          refine (hX _).mono ?_; rintro e w3 ⟨rfl, hb3⟩
          have p30 := rule hb3 (w.heap.size) (by omega)
          have p31 := rule hb3 (w.heap.size + 1) (by omega)
          have HB3 := Lib.hid (bthen HB2.out hb3)
          have hz3 : w.heap.size + 1 < w3.heap.size := by have := hb3.size; omega
          clear hb3
          go_wp2_with fail
          refine (hY _).mono ?_; rintro e w4 ⟨rfl, hb4⟩
          have p40 := rule hb4 (w.heap.size) (by omega)
          have p41 := rule hb4 (w.heap.size + 1) (by omega)
          have HB4 := Lib.hid (bthen HB3.out hb4)
          have hz4 : w.heap.size + 1 < w4.heap.size := by have := hb4.size; omega
          clear hb4
          go_wp2_with fail
          refine (HV.out _).mono ?_; rintro e w5 ⟨rfl, kq, rfl⟩
          have HB5 := Lib.hid (below_draw HB4.out kq)
          go_wp2_with fail
          refine (HG.out _).mono ?_; rintro e w6 ⟨bq, hbq, rfl, hro⟩
          have HRO := Lib.hid (hro.after HB5.out)
          clear hro
          go_wp2_with fail
          go_ret2
          exact HRO.out
        · have eM : madeO 2 v u = noO u := by unfold madeO; rw [if_neg hu]
          rw [eM]
          clear eM
          have HG := Lib.hid (fun W => refGives_no v u hu W)
          obtain ⟨ka, xa, ca, na, sa, ra, fa, la⟩ := a
          obtain ⟨kb, xb, cb, nb, sb, rb, fb, lb⟩ := b
          unfold Ob.vl at *
          simp only at *
          go_enter Tryd.func12, Tryd.ntmps12
          go_wp2_with fail
          refine (hNa _).mono ?_; rintro e w1 ⟨rfl, hb1⟩
          have p10 := rule hb1 (w.heap.size) (by simp <;> omega)
          have p11 := rule hb1 (w.heap.size + 1) (by simp <;> omega)
          have HB1 := Lib.hid (bthen (below2 _ _ _ ) hb1)
          have hz1 : w.heap.size + 1 < w1.heap.size := by have := hb1.size; simp at this; omega
          clear hb1
          go_wp2_with fail
          refine (hNb _).mono ?_; rintro e w2 ⟨rfl, hb2⟩
          have p20 := rule hb2 (w.heap.size) (by omega)
          have p21 := rule hb2 (w.heap.size + 1) (by omega)
          have HB2 := Lib.hid (bthen HB1.out hb2)
          have hz2 : w.heap.size + 1 < w2.heap.size := by have := hb2.size; omega
          clear hb2
          go_wp2_with fail
          refine (hX _).mono ?_; rintro e w3 ⟨rfl, hb3⟩
          have p30 := rule hb3 (w.heap.size) (by omega)
          have p31 := rule hb3 (w.heap.size + 1) (by omega)
          have HB3 := Lib.hid (bthen HB2.out hb3)
          have hz3 : w.heap.size + 1 < w3.heap.size := by have := hb3.size; omega
          clear hb3
          go_wp2_with fail
          refine (hY _).mono ?_; rintro e w4 ⟨rfl, hb4⟩
          have p40 := rule hb4 (w.heap.size) (by omega)
          have p41 := rule hb4 (w.heap.size + 1) (by omega)
          have HB4 := Lib.hid (bthen HB3.out hb4)
          have hz4 : w.heap.size + 1 < w4.heap.size := by have := hb4.size; omega
          clear hb4
          go_wp2_with fail
          refine (HV.out _).mono ?_; rintro e w5 ⟨rfl, kq, rfl⟩
          have HB5 := Lib.hid (below_draw HB4.out kq)
          go_wp2_with fail
          refine (HG.out _).mono ?_; rintro e w6 ⟨rfl, rfl⟩
          go_wp2_with fail
          go_ret2
          exact RefO.err hu HB5.out
      · rw [if_neg hb0]
        have hb0' : (eb == 0) = false := by simpa using hb0
        have HZ := Lib.hid hb0
        clear hb0
        obtain ⟨ka, xa, ca, na, sa, ra, fa, la⟩ := a
        obtain ⟨kb, xb, cb, nb, sb, rb, fb, lb⟩ := b
        unfold Ob.vl at *
        simp only at *
        go_enter Tryd.func12, Tryd.ntmps12
        go_wp2_with fail
        refine (hNa _).mono ?_; rintro e w1 ⟨rfl, hb1⟩
        have p10 := rule hb1 (w.heap.size) (by simp <;> omega)
        have p11 := rule hb1 (w.heap.size + 1) (by simp <;> omega)
        have HB1 := Lib.hid (bthen (below2 _ _ _ ) hb1)
        have hz1 : w.heap.size + 1 < w1.heap.size := by have := hb1.size; simp at this; omega
        clear hb1
        go_wp2_with fail
        refine (hNb _).mono ?_; rintro e w2 ⟨rfl, hb2⟩
        have p20 := rule hb2 (w.heap.size) (by omega)
        have p21 := rule hb2 (w.heap.size + 1) (by omega)
        have HB2 := Lib.hid (bthen HB1.out hb2)
        have hz2 : w.heap.size + 1 < w2.heap.size := by have := hb2.size; omega
        clear hb2
        go_wp2_with fail
        refine (hX _).mono ?_; rintro e w3 ⟨rfl, hb3⟩
        have p30 := rule hb3 (w.heap.size) (by omega)
        have p31 := rule hb3 (w.heap.size + 1) (by omega)
        have HB3 := Lib.hid (bthen HB2.out hb3)
        have hz3 : w.heap.size + 1 < w3.heap.size := by have := hb3.size; omega
        clear hb3
        go_wp2_with fail
        refine (hY _).mono ?_; rintro e w4 ⟨rfl, hb4⟩
        have p40 := rule hb4 (w.heap.size) (by omega)
        have p41 := rule hb4 (w.heap.size + 1) (by omega)
        have HB4 := Lib.hid (bthen HB3.out hb4)
        have hz4 : w.heap.size + 1 < w4.heap.size := by have := hb4.size; omega
        clear hb4
        go_wp2_with fail
        go_ret2
        exact RefO.err HZ.out HB4.out
    · rw [if_neg ha0]
      have ha0' : (ea == 0) = false := by simpa using ha0
      have HZ := Lib.hid ha0
      clear ha0
      obtain ⟨ka, xa, ca, na, sa, ra, fa, la⟩ := a
      obtain ⟨kb, xb, cb, nb, sb, rb, fb, lb⟩ := b
      unfold Ob.vl at *
      simp only at *
      go_enter Tryd.func12, Tryd.ntmps12
      go_wp2_with fail
      refine (hNa _).mono ?_; rintro e w1 ⟨rfl, hb1⟩
      have p10 := rule hb1 (w.heap.size) (by simp <;> omega)
      have p11 := rule hb1 (w.heap.size + 1) (by simp <;> omega)
      have HB1 := Lib.hid (bthen (below2 _ _ _ ) hb1)
      have hz1 : w.heap.size + 1 < w1.heap.size := by have := hb1.size; simp at this; omega
      clear hb1
      go_wp2_with fail
      refine (hNb _).mono ?_; rintro e w2 ⟨rfl, hb2⟩
      have p20 := rule hb2 (w.heap.size) (by omega)
      have p21 := rule hb2 (w.heap.size + 1) (by omega)
      have HB2 := Lib.hid (bthen HB1.out hb2)
      have hz2 : w.heap.size + 1 < w2.heap.size := by have := hb2.size; omega
      clear hb2
      go_wp2_with fail
      refine (hX _).mono ?_; rintro e w3 ⟨rfl, hb3⟩
      have p30 := rule hb3 (w.heap.size) (by omega)
      have p31 := rule hb3 (w.heap.size + 1) (by omega)
      have HB3 := Lib.hid (bthen HB2.out hb3)
      have hz3 : w.heap.size + 1 < w3.heap.size := by have := hb3.size; omega
      clear hb3
      go_wp2_with fail
      go_ret2
      exact RefO.err HZ.out HB3.out
theorem ref_mul {a b : Ob} {B c : Nat} {w : World} (ha : At10 w B 0 a) (hb : At10 w B 10 b) : Calls Tryd.prog 12 #[.string ⟨#[109, 117, 108]⟩, .slice (some ⟨B, 0, none⟩) 2 c] w fun e w' => RefO w (numO (fun x y => x * y) mulV mulE a b) e w' := by
  cases hn : (isNumB a && isNumB b)
  · exact ref_mul_no ha hb hn
  · cases hka : (a.kind == 1)
    · exact ref_mul_f ha hb hn hka
    · cases hkb : (b.kind == 1)
      · exact ref_mul_tf ha hb hn hka hkb
      · cases hf : fits (a.n * b.n)
        · exact ref_mul_tt ha hb hn hka hkb hf
        · refine ref_mul_int ha hb ?_ hf
          rw [Bool.and_eq_true] at hn ⊢
          exact ⟨(isInt_iff a).2 ⟨by simpa using hka, ((isNum_iff a).1 hn.1).2⟩, (isInt_iff b).2 ⟨by simpa using hkb, ((isNum_iff b).1 hn.2).2⟩⟩
end Ari
end Go.Proofs.YtgbpldfcahajeaaDoor
namespace Go.Proofs.YtgbpldfcahajeaaDoor
open Go.RowKit
open Fx
namespace Ari
set_option maxHeartbeats 2000000 in
set_option maxRecDepth 100000 in
theorem ref_div_no {a b : Ob} {B c : Nat} {w : World} (ha : At10 w B 0 a) (hb : At10 w B 10 b) (hn : (isNumB a && isNumB b) = false) : Calls Tryd.prog 12 #[.string ⟨#[100, 105, 118]⟩, .slice (some ⟨B, 0, none⟩) 2 c] w fun e w' => RefO w (realsO divV divE a b) e w' := by
    have e0 : realsO divV divE a b = noO 16 := by unfold realsO; rw [hn]; rfl
    rw [e0]
    clear e0
    have hNa := refNum_at a
    have hNb := refNum_at b
    obtain ⟨a0, a1, a2, a3, a4, a5, a6, a7, a8, a9⟩ := ha
    obtain ⟨b0, b1, b2, b3, b4, b5, b6, b7, b8, b9⟩ := hb
    simp only [Nat.zero_add, Nat.reduceAdd] at *
    have hlt := World.block_lt_of_cell? w _ a0
    cases h1 : isNumB a
    · rw [h1] at hNa
      clear h1 hn hNb
      obtain ⟨ka, xa, ca, na, sa, ra, fa, la⟩ := a
      obtain ⟨kb, xb, cb, nb, sb, rb, fb, lb⟩ := b
      unfold Ob.vl at *
      simp only at *
      go_enter Tryd.func12, Tryd.ntmps12
      go_wp2_with fail
      refine (hNa _).mono ?_; rintro e w1 ⟨rfl, hb1⟩
      have p10 := rule hb1 (w.heap.size) (by simp <;> omega)
      have p11 := rule hb1 (w.heap.size + 1) (by simp <;> omega)
      have HB1 := Lib.hid (bthen (below2 _ _ _ ) hb1)
      have hz1 : w.heap.size + 1 < w1.heap.size := by have := hb1.size; simp at this; omega
      clear hb1
      go_wp2_with fail
      go_ret2
      exact RefO.err (by decide) HB1.out
    · have h2 : isNumB b = false := by rw [h1] at hn; simpa using hn
      rw [h1] at hNa
      rw [h2] at hNb
      clear h1 h2 hn
      obtain ⟨ka, xa, ca, na, sa, ra, fa, la⟩ := a
      obtain ⟨kb, xb, cb, nb, sb, rb, fb, lb⟩ := b
      unfold Ob.vl at *
      simp only at *
      go_enter Tryd.func12, Tryd.ntmps12
      go_wp2_with fail
      refine (hNa _).mono ?_; rintro e w1 ⟨rfl, hb1⟩
      have p10 := rule hb1 (w.heap.size) (by simp <;> omega)
      have p11 := rule hb1 (w.heap.size + 1) (by simp <;> omega)
      have HB1 := Lib.hid (bthen (below2 _ _ _ ) hb1)
      have hz1 : w.heap.size + 1 < w1.heap.size := by have := hb1.size; simp at this; omega
      clear hb1
      go_wp2_with fail
      refine (hNb _).mono ?_; rintro e w2 ⟨rfl, hb2⟩
      have p20 := rule hb2 (w.heap.size) (by omega)
      have p21 := rule hb2 (w.heap.size + 1) (by omega)
      have HB2 := Lib.hid (bthen HB1.out hb2)
      have hz2 : w.heap.size + 1 < w2.heap.size := by have := hb2.size; omega
      clear hb2
      go_wp2_with fail
      go_ret2
      exact RefO.err (by decide) HB2.out
set_option maxHeartbeats 4000000 in
set_option maxRecDepth 100000 in
theorem ref_div_tt {a b : Ob} {B c : Nat} {w : World} (ha : At10 w B 0 a) (hb : At10 w B 10 b) (hn : (isNumB a && isNumB b) = true) (hka : (a.kind == 1) = true) (hkb : (b.kind == 1) = true) : Calls Tryd.prog 12 #[.string ⟨#[100, 105, 118]⟩, .slice (some ⟨B, 0, none⟩) 2 c] w fun e w' => RefO w (realsO divV divE a b) e w' := by
    have e0 : realsO divV divE a b = (if asE a = 0 then (if asE b = 0 then madeO 2 (divV (asV a) (asV b)) (divE (asV a) (asV b)) else noO (asE b)) else noO (asE a)) := by unfold realsO; rw [if_pos hn]
    rw [e0]
    clear e0
    rw [Bool.and_eq_true] at hn
    have hNa := refNum_at a
    have hNb := refNum_at b
    rw [hn.1] at hNa
    rw [hn.2] at hNb
    have h1 := hn.1
    have h2 := hn.2
    obtain ⟨-, x1, x2⟩ := (isNum_iff a).1 h1
    obtain ⟨-, y1, y2⟩ := (isNum_iff b).1 h2
    have hX := fun W => refAs_at a W h1
    have hY := fun W => refAs_at b W h2
    clear hn h1 h2
    have HV := Lib.hid (fun W => refDiv_any (asV a) (asV b) W)
    generalize asV a = x at *
    generalize asV b = y at *
    generalize asE a = ea at *
    generalize asE b = eb at *
    generalize divV x y = v at *
    generalize divE x y = u at *
    obtain ⟨a0, a1, a2, a3, a4, a5, a6, a7, a8, a9⟩ := ha
    obtain ⟨b0, b1, b2, b3, b4, b5, b6, b7, b8, b9⟩ := hb
    simp only [Nat.zero_add, Nat.reduceAdd] at *
    have hlt := World.block_lt_of_cell? w _ a0
    by_cases ha0 : ea = 0
    · subst ha0
      rw [if_pos rfl]
      by_cases hb0 : eb = 0
      · subst hb0
        rw [if_pos rfl]
        by_cases hu : u = 0
        · subst hu
          have eM : madeO 2 v 0 = okO 2 v := rfl
          rw [eM]
          clear eM
          have HG := Lib.hid (fun W => refGives_ok v W)
          obtain ⟨ka, xa, ca, na, sa, ra, fa, la⟩ := a
          obtain ⟨kb, xb, cb, nb, sb, rb, fb, lb⟩ := b
          unfold Ob.vl at *
          simp only at *
          go_enter Tryd.func12, Tryd.ntmps12
          go_wp2_with fail
          refine (hNa _).mono ?_; rintro e w1 ⟨rfl, hb1⟩
          have p10 := rule hb1 (w.heap.size) (by simp <;> omega)
          have p11 := rule hb1 (w.heap.size + 1) (by simp <;> omega)
          have HB1 := Lib.hid (bthen (below2 _ _ _ ) hb1)
          have hz1 : w.heap.size + 1 < w1.heap.size := by have := hb1.size; simp at this; omega
          clear hb1
          go_wp2_with fail
          refine (hNb _).mono ?_; rintro e w2 ⟨rfl, hb2⟩
          have p20 := rule hb2 (w.heap.size) (by omega)
          have p21 := rule hb2 (w.heap.size + 1) (by omega)
          have HB2 := Lib.hid (bthen HB1.out hb2)
          have hz2 : w.heap.size + 1 < w2.heap.size := by have := hb2.size; omega
          clear hb2
          go_wp2_with fail
          refine (hX _).mono ?_; rintro e w3 ⟨rfl, hb3⟩
          have p30 := rule hb3 (w.heap.size) (by omega)
          have p31 := rule hb3 (w.heap.size + 1) (by omega)
          have HB3 := Lib.hid (bthen HB2.out hb3)
          have hz3 : w.heap.size + 1 < w3.heap.size := by have := hb3.size; omega
          clear hb3
          go_wp2_with fail
          refine (hY _).mono ?_; rintro e w4 ⟨rfl, hb4⟩
          have p40 := rule hb4 (w.heap.size) (by omega)
          have p41 := rule hb4 (w.heap.size + 1) (by omega)
          have HB4 := Lib.hid (bthen HB3.out hb4)
          have hz4 : w.heap.size + 1 < w4.heap.size := by have := hb4.size; omega
          clear hb4
          go_wp2_with fail
          refine (HV.out _).mono ?_; rintro e w5 ⟨rfl, kq, rfl⟩
          have HB5 := Lib.hid (below_draw HB4.out kq)
          go_wp2_with fail
          refine (HG.out _).mono ?_; rintro e w6 ⟨bq, hbq, rfl, hro⟩
          have HRO := Lib.hid (hro.after HB5.out)
          clear hro
          go_wp2_with fail
          go_ret2
          exact HRO.out
        · have eM : madeO 2 v u = noO u := by unfold madeO; rw [if_neg hu]
          rw [eM]
          clear eM
          have HG := Lib.hid (fun W => refGives_no v u hu W)
          obtain ⟨ka, xa, ca, na, sa, ra, fa, la⟩ := a
          obtain ⟨kb, xb, cb, nb, sb, rb, fb, lb⟩ := b
          unfold Ob.vl at *
          simp only at *
          go_enter Tryd.func12, Tryd.ntmps12
          go_wp2_with fail
          refine (hNa _).mono ?_; rintro e w1 ⟨rfl, hb1⟩
          have p10 := rule hb1 (w.heap.size) (by simp <;> omega)
          have p11 := rule hb1 (w.heap.size + 1) (by simp <;> omega)
          have HB1 := Lib.hid (bthen (below2 _ _ _ ) hb1)
          have hz1 : w.heap.size + 1 < w1.heap.size := by have := hb1.size; simp at this; omega
          clear hb1
          go_wp2_with fail
          refine (hNb _).mono ?_; rintro e w2 ⟨rfl, hb2⟩
          have p20 := rule hb2 (w.heap.size) (by omega)
          have p21 := rule hb2 (w.heap.size + 1) (by omega)
          have HB2 := Lib.hid (bthen HB1.out hb2)
          have hz2 : w.heap.size + 1 < w2.heap.size := by have := hb2.size; omega
          clear hb2
          go_wp2_with fail
          refine (hX _).mono ?_; rintro e w3 ⟨rfl, hb3⟩
          have p30 := rule hb3 (w.heap.size) (by omega)
          have p31 := rule hb3 (w.heap.size + 1) (by omega)
          have HB3 := Lib.hid (bthen HB2.out hb3)
          have hz3 : w.heap.size + 1 < w3.heap.size := by have := hb3.size; omega
          clear hb3
          go_wp2_with fail
          refine (hY _).mono ?_; rintro e w4 ⟨rfl, hb4⟩
          have p40 := rule hb4 (w.heap.size) (by omega)
          have p41 := rule hb4 (w.heap.size + 1) (by omega)
          have HB4 := Lib.hid (bthen HB3.out hb4)
          have hz4 : w.heap.size + 1 < w4.heap.size := by have := hb4.size; omega
          clear hb4
          go_wp2_with fail
          refine (HV.out _).mono ?_; rintro e w5 ⟨rfl, kq, rfl⟩
          have HB5 := Lib.hid (below_draw HB4.out kq)
          go_wp2_with fail
          refine (HG.out _).mono ?_; rintro e w6 ⟨rfl, rfl⟩
          go_wp2_with fail
          go_ret2
          exact RefO.err hu HB5.out
      · rw [if_neg hb0]
        have hb0' : (eb == 0) = false := by simpa using hb0
        have HZ := Lib.hid hb0
        clear hb0
        obtain ⟨ka, xa, ca, na, sa, ra, fa, la⟩ := a
        obtain ⟨kb, xb, cb, nb, sb, rb, fb, lb⟩ := b
        unfold Ob.vl at *
        simp only at *
        go_enter Tryd.func12, Tryd.ntmps12
        go_wp2_with fail
        refine (hNa _).mono ?_; rintro e w1 ⟨rfl, hb1⟩
        have p10 := rule hb1 (w.heap.size) (by simp <;> omega)
        have p11 := rule hb1 (w.heap.size + 1) (by simp <;> omega)
        have HB1 := Lib.hid (bthen (below2 _ _ _ ) hb1)
        have hz1 : w.heap.size + 1 < w1.heap.size := by have := hb1.size; simp at this; omega
        clear hb1
        go_wp2_with fail
        refine (hNb _).mono ?_; rintro e w2 ⟨rfl, hb2⟩
        have p20 := rule hb2 (w.heap.size) (by omega)
        have p21 := rule hb2 (w.heap.size + 1) (by omega)
        have HB2 := Lib.hid (bthen HB1.out hb2)
        have hz2 : w.heap.size + 1 < w2.heap.size := by have := hb2.size; omega
        clear hb2
        go_wp2_with fail
        refine (hX _).mono ?_; rintro e w3 ⟨rfl, hb3⟩
        have p30 := rule hb3 (w.heap.size) (by omega)
        have p31 := rule hb3 (w.heap.size + 1) (by omega)
        have HB3 := Lib.hid (bthen HB2.out hb3)
        have hz3 : w.heap.size + 1 < w3.heap.size := by have := hb3.size; omega
        clear hb3
        go_wp2_with fail
        refine (hY _).mono ?_; rintro e w4 ⟨rfl, hb4⟩
        have p40 := rule hb4 (w.heap.size) (by omega)
        have p41 := rule hb4 (w.heap.size + 1) (by omega)
        have HB4 := Lib.hid (bthen HB3.out hb4)
        have hz4 : w.heap.size + 1 < w4.heap.size := by have := hb4.size; omega
        clear hb4
        go_wp2_with fail
        go_ret2
        exact RefO.err HZ.out HB4.out
    · rw [if_neg ha0]
      have ha0' : (ea == 0) = false := by simpa using ha0
      have HZ := Lib.hid ha0
      clear ha0
      obtain ⟨ka, xa, ca, na, sa, ra, fa, la⟩ := a
      obtain ⟨kb, xb, cb, nb, sb, rb, fb, lb⟩ := b
      unfold Ob.vl at *
      simp only at *
      go_enter Tryd.func12, Tryd.ntmps12
      go_wp2_with fail
      refine (hNa _).mono ?_; rintro e w1 ⟨rfl, hb1⟩
      have p10 := rule hb1 (w.heap.size) (by simp <;> omega)
      have p11 := rule hb1 (w.heap.size + 1) (by simp <;> omega)
      have HB1 := Lib.hid (bthen (below2 _ _ _ ) hb1)
      have hz1 : w.heap.size + 1 < w1.heap.size := by have := hb1.size; simp at this; omega
      clear hb1
      go_wp2_with fail
      refine (hNb _).mono ?_; rintro e w2 ⟨rfl, hb2⟩
      have p20 := rule hb2 (w.heap.size) (by omega)
      have p21 := rule hb2 (w.heap.size + 1) (by omega)
      have HB2 := Lib.hid (bthen HB1.out hb2)
      have hz2 : w.heap.size + 1 < w2.heap.size := by have := hb2.size; omega
      clear hb2
      go_wp2_with fail
      refine (hX _).mono ?_; rintro e w3 ⟨rfl, hb3⟩
      have p30 := rule hb3 (w.heap.size) (by omega)
      have p31 := rule hb3 (w.heap.size + 1) (by omega)
      have HB3 := Lib.hid (bthen HB2.out hb3)
      have hz3 : w.heap.size + 1 < w3.heap.size := by have := hb3.size; omega
      clear hb3
      go_wp2_with fail
      go_ret2
      exact RefO.err HZ.out HB3.out
set_option maxHeartbeats 4000000 in
set_option maxRecDepth 100000 in
theorem ref_div_tf {a b : Ob} {B c : Nat} {w : World} (ha : At10 w B 0 a) (hb : At10 w B 10 b) (hn : (isNumB a && isNumB b) = true) (hka : (a.kind == 1) = true) (hkb : (b.kind == 1) = false) : Calls Tryd.prog 12 #[.string ⟨#[100, 105, 118]⟩, .slice (some ⟨B, 0, none⟩) 2 c] w fun e w' => RefO w (realsO divV divE a b) e w' := by
    have e0 : realsO divV divE a b = (if asE a = 0 then (if asE b = 0 then madeO 2 (divV (asV a) (asV b)) (divE (asV a) (asV b)) else noO (asE b)) else noO (asE a)) := by unfold realsO; rw [if_pos hn]
    rw [e0]
    clear e0
    rw [Bool.and_eq_true] at hn
    have hNa := refNum_at a
    have hNb := refNum_at b
    rw [hn.1] at hNa
    rw [hn.2] at hNb
    have h1 := hn.1
    have h2 := hn.2
    obtain ⟨-, x1, x2⟩ := (isNum_iff a).1 h1
    obtain ⟨-, y1, y2⟩ := (isNum_iff b).1 h2
    have hX := fun W => refAs_at a W h1
    have hY := fun W => refAs_at b W h2
    clear hn h1 h2
    have HV := Lib.hid (fun W => refDiv_any (asV a) (asV b) W)
    generalize asV a = x at *
    generalize asV b = y at *
    generalize asE a = ea at *
    generalize asE b = eb at *
    generalize divV x y = v at *
    generalize divE x y = u at *
    obtain ⟨a0, a1, a2, a3, a4, a5, a6, a7, a8, a9⟩ := ha
    obtain ⟨b0, b1, b2, b3, b4, b5, b6, b7, b8, b9⟩ := hb
    simp only [Nat.zero_add, Nat.reduceAdd] at *
    have hlt := World.block_lt_of_cell? w _ a0
    by_cases ha0 : ea = 0
    · subst ha0
      rw [if_pos rfl]
      by_cases hb0 : eb = 0
      · subst hb0
        rw [if_pos rfl]
        by_cases hu : u = 0
        · subst hu
          have eM : madeO 2 v 0 = okO 2 v := rfl
          rw [eM]
          clear eM
          have HG := Lib.hid (fun W => refGives_ok v W)
          obtain ⟨ka, xa, ca, na, sa, ra, fa, la⟩ := a
          obtain ⟨kb, xb, cb, nb, sb, rb, fb, lb⟩ := b
          unfold Ob.vl at *
          simp only at *
          go_enter Tryd.func12, Tryd.ntmps12
          go_wp2_with fail
          refine (hNa _).mono ?_; rintro e w1 ⟨rfl, hb1⟩
          have p10 := rule hb1 (w.heap.size) (by simp <;> omega)
          have p11 := rule hb1 (w.heap.size + 1) (by simp <;> omega)
          have HB1 := Lib.hid (bthen (below2 _ _ _ ) hb1)
          have hz1 : w.heap.size + 1 < w1.heap.size := by have := hb1.size; simp at this; omega
          clear hb1
          go_wp2_with fail
          refine (hNb _).mono ?_; rintro e w2 ⟨rfl, hb2⟩
          have p20 := rule hb2 (w.heap.size) (by omega)
          have p21 := rule hb2 (w.heap.size + 1) (by omega)
          have HB2 := Lib.hid (bthen HB1.out hb2)
          have hz2 : w.heap.size + 1 < w2.heap.size := by have := hb2.size; omega
          clear hb2
          go_wp2_with fail
          refine (hX _).mono ?_; rintro e w3 ⟨rfl, hb3⟩
          have p30 := rule hb3 (w.heap.size) (by omega)
          have p31 := rule hb3 (w.heap.size + 1) (by omega)
          have HB3 := Lib.hid (bthen HB2.out hb3)
          have hz3 : w.heap.size + 1 < w3.heap.size := by have := hb3.size; omega
          clear hb3
          go_wp2_with fail
          refine (hY _).mono ?_; rintro e w4 ⟨rfl, hb4⟩
          have p40 := rule hb4 (w.heap.size) (by omega)
          have p41 := rule hb4 (w.heap.size + 1) (by omega)
          have HB4 := Lib.hid (bthen HB3.out hb4)
          have hz4 : w.heap.size + 1 < w4.heap.size := by have := hb4.size; omega
          clear hb4
          go_wp2_with fail
          refine (HV.out _).mono ?_; rintro e w5 ⟨rfl, kq, rfl⟩
          have HB5 := Lib.hid (below_draw HB4.out kq)
          go_wp2_with fail
          refine (HG.out _).mono ?_; rintro e w6 ⟨bq, hbq, rfl, hro⟩
          have HRO := Lib.hid (hro.after HB5.out)
          clear hro
          go_wp2_with fail
          go_ret2
          exact HRO.out
        · have eM : madeO 2 v u = noO u := by unfold madeO; rw [if_neg hu]
          rw [eM]
          clear eM
          have HG := Lib.hid (fun W => refGives_no v u hu W)
          obtain ⟨ka, xa, ca, na, sa, ra, fa, la⟩ := a
          obtain ⟨kb, xb, cb, nb, sb, rb, fb, lb⟩ := b
          unfold Ob.vl at *
          simp only at *
          go_enter Tryd.func12, Tryd.ntmps12
          go_wp2_with fail
          refine (hNa _).mono ?_; rintro e w1 ⟨rfl, hb1⟩
          have p10 := rule hb1 (w.heap.size) (by simp <;> omega)
          have p11 := rule hb1 (w.heap.size + 1) (by simp <;> omega)
          have HB1 := Lib.hid (bthen (below2 _ _ _ ) hb1)
          have hz1 : w.heap.size + 1 < w1.heap.size := by have := hb1.size; simp at this; omega
          clear hb1
          go_wp2_with fail
          refine (hNb _).mono ?_; rintro e w2 ⟨rfl, hb2⟩
          have p20 := rule hb2 (w.heap.size) (by omega)
          have p21 := rule hb2 (w.heap.size + 1) (by omega)
          have HB2 := Lib.hid (bthen HB1.out hb2)
          have hz2 : w.heap.size + 1 < w2.heap.size := by have := hb2.size; omega
          clear hb2
          go_wp2_with fail
          refine (hX _).mono ?_; rintro e w3 ⟨rfl, hb3⟩
          have p30 := rule hb3 (w.heap.size) (by omega)
          have p31 := rule hb3 (w.heap.size + 1) (by omega)
          have HB3 := Lib.hid (bthen HB2.out hb3)
          have hz3 : w.heap.size + 1 < w3.heap.size := by have := hb3.size; omega
          clear hb3
          go_wp2_with fail
          refine (hY _).mono ?_; rintro e w4 ⟨rfl, hb4⟩
          have p40 := rule hb4 (w.heap.size) (by omega)
          have p41 := rule hb4 (w.heap.size + 1) (by omega)
          have HB4 := Lib.hid (bthen HB3.out hb4)
          have hz4 : w.heap.size + 1 < w4.heap.size := by have := hb4.size; omega
          clear hb4
          go_wp2_with fail
          refine (HV.out _).mono ?_; rintro e w5 ⟨rfl, kq, rfl⟩
          have HB5 := Lib.hid (below_draw HB4.out kq)
          go_wp2_with fail
          refine (HG.out _).mono ?_; rintro e w6 ⟨rfl, rfl⟩
          go_wp2_with fail
          go_ret2
          exact RefO.err hu HB5.out
      · rw [if_neg hb0]
        have hb0' : (eb == 0) = false := by simpa using hb0
        have HZ := Lib.hid hb0
        clear hb0
        obtain ⟨ka, xa, ca, na, sa, ra, fa, la⟩ := a
        obtain ⟨kb, xb, cb, nb, sb, rb, fb, lb⟩ := b
        unfold Ob.vl at *
        simp only at *
        go_enter Tryd.func12, Tryd.ntmps12
        go_wp2_with fail
        refine (hNa _).mono ?_; rintro e w1 ⟨rfl, hb1⟩
        have p10 := rule hb1 (w.heap.size) (by simp <;> omega)
        have p11 := rule hb1 (w.heap.size + 1) (by simp <;> omega)
        have HB1 := Lib.hid (bthen (below2 _ _ _ ) hb1)
        have hz1 : w.heap.size + 1 < w1.heap.size := by have := hb1.size; simp at this; omega
        clear hb1
        go_wp2_with fail
        refine (hNb _).mono ?_; rintro e w2 ⟨rfl, hb2⟩
        have p20 := rule hb2 (w.heap.size) (by omega)
        have p21 := rule hb2 (w.heap.size + 1) (by omega)
        have HB2 := Lib.hid (bthen HB1.out hb2)
        have hz2 : w.heap.size + 1 < w2.heap.size := by have := hb2.size; omega
        clear hb2
        go_wp2_with fail
        refine (hX _).mono ?_; rintro e w3 ⟨rfl, hb3⟩
        have p30 := rule hb3 (w.heap.size) (by omega)
        have p31 := rule hb3 (w.heap.size + 1) (by omega)
        have HB3 := Lib.hid (bthen HB2.out hb3)
        have hz3 : w.heap.size + 1 < w3.heap.size := by have := hb3.size; omega
        clear hb3
        go_wp2_with fail
        refine (hY _).mono ?_; rintro e w4 ⟨rfl, hb4⟩
        have p40 := rule hb4 (w.heap.size) (by omega)
        have p41 := rule hb4 (w.heap.size + 1) (by omega)
        have HB4 := Lib.hid (bthen HB3.out hb4)
        have hz4 : w.heap.size + 1 < w4.heap.size := by have := hb4.size; omega
        clear hb4
        go_wp2_with fail
        go_ret2
        exact RefO.err HZ.out HB4.out
    · rw [if_neg ha0]
      have ha0' : (ea == 0) = false := by simpa using ha0
      have HZ := Lib.hid ha0
      clear ha0
      obtain ⟨ka, xa, ca, na, sa, ra, fa, la⟩ := a
      obtain ⟨kb, xb, cb, nb, sb, rb, fb, lb⟩ := b
      unfold Ob.vl at *
      simp only at *
      go_enter Tryd.func12, Tryd.ntmps12
      go_wp2_with fail
      refine (hNa _).mono ?_; rintro e w1 ⟨rfl, hb1⟩
      have p10 := rule hb1 (w.heap.size) (by simp <;> omega)
      have p11 := rule hb1 (w.heap.size + 1) (by simp <;> omega)
      have HB1 := Lib.hid (bthen (below2 _ _ _ ) hb1)
      have hz1 : w.heap.size + 1 < w1.heap.size := by have := hb1.size; simp at this; omega
      clear hb1
      go_wp2_with fail
      refine (hNb _).mono ?_; rintro e w2 ⟨rfl, hb2⟩
      have p20 := rule hb2 (w.heap.size) (by omega)
      have p21 := rule hb2 (w.heap.size + 1) (by omega)
      have HB2 := Lib.hid (bthen HB1.out hb2)
      have hz2 : w.heap.size + 1 < w2.heap.size := by have := hb2.size; omega
      clear hb2
      go_wp2_with fail
      refine (hX _).mono ?_; rintro e w3 ⟨rfl, hb3⟩
      have p30 := rule hb3 (w.heap.size) (by omega)
      have p31 := rule hb3 (w.heap.size + 1) (by omega)
      have HB3 := Lib.hid (bthen HB2.out hb3)
      have hz3 : w.heap.size + 1 < w3.heap.size := by have := hb3.size; omega
      clear hb3
      go_wp2_with fail
      go_ret2
      exact RefO.err HZ.out HB3.out
set_option maxHeartbeats 4000000 in
set_option maxRecDepth 100000 in
theorem ref_div_f {a b : Ob} {B c : Nat} {w : World} (ha : At10 w B 0 a) (hb : At10 w B 10 b) (hn : (isNumB a && isNumB b) = true) (hka : (a.kind == 1) = false) : Calls Tryd.prog 12 #[.string ⟨#[100, 105, 118]⟩, .slice (some ⟨B, 0, none⟩) 2 c] w fun e w' => RefO w (realsO divV divE a b) e w' := by
    have e0 : realsO divV divE a b = (if asE a = 0 then (if asE b = 0 then madeO 2 (divV (asV a) (asV b)) (divE (asV a) (asV b)) else noO (asE b)) else noO (asE a)) := by unfold realsO; rw [if_pos hn]
    rw [e0]
    clear e0
    rw [Bool.and_eq_true] at hn
    have hNa := refNum_at a
    have hNb := refNum_at b
    rw [hn.1] at hNa
    rw [hn.2] at hNb
    have h1 := hn.1
    have h2 := hn.2
    obtain ⟨-, x1, x2⟩ := (isNum_iff a).1 h1
    obtain ⟨-, y1, y2⟩ := (isNum_iff b).1 h2
    have hX := fun W => refAs_at a W h1
    have hY := fun W => refAs_at b W h2
    clear hn h1 h2
    have HV := Lib.hid (fun W => refDiv_any (asV a) (asV b) W)
    generalize asV a = x at *
    generalize asV b = y at *
    generalize asE a = ea at *
    generalize asE b = eb at *
    generalize divV x y = v at *
    generalize divE x y = u at *
    obtain ⟨a0, a1, a2, a3, a4, a5, a6, a7, a8, a9⟩ := ha
    obtain ⟨b0, b1, b2, b3, b4, b5, b6, b7, b8, b9⟩ := hb
    simp only [Nat.zero_add, Nat.reduceAdd] at *
    have hlt := World.block_lt_of_cell? w _ a0
    by_cases ha0 : ea = 0
    · subst ha0
      rw [if_pos rfl]
      by_cases hb0 : eb = 0
      · subst hb0
        rw [if_pos rfl]
        by_cases hu : u = 0
        · subst hu
          have eM : madeO 2 v 0 = okO 2 v := rfl
          rw [eM]
          clear eM
          have HG := Lib.hid (fun W => refGives_ok v W)
          obtain ⟨ka, xa, ca, na, sa, ra, fa, la⟩ := a
          obtain ⟨kb, xb, cb, nb, sb, rb, fb, lb⟩ := b
          unfold Ob.vl at *
          simp only at *
          go_enter Tryd.func12, Tryd.ntmps12
          go_wp2_with fail
          refine (hNa _).mono ?_; rintro e w1 ⟨rfl, hb1⟩
          have p10 := rule hb1 (w.heap.size) (by simp <;> omega)
          have p11 := rule hb1 (w.heap.size + 1) (by simp <;> omega)
          have HB1 := Lib.hid (bthen (below2 _ _ _ ) hb1)
          have hz1 : w.heap.size + 1 < w1.heap.size := by have := hb1.size; simp at this; omega
          clear hb1
          go_wp2_with fail
          refine (hNb _).mono ?_; rintro e w2 ⟨rfl, hb2⟩
          have p20 := rule hb2 (w.heap.size) (by omega)
          have p21 := rule hb2 (w.heap.size + 1) (by omega)
          have HB2 := Lib.hid (bthen HB1.out hb2)
          have hz2 : w.heap.size + 1 < w2.heap.size := by have := hb2.size; omega
          clear hb2
          go_wp2_with fail
          refine (hX _).mono ?_; rintro e w3 ⟨rfl, hb3⟩
          have p30 := rule hb3 (w.heap.size) (by omega)
          have p31 := rule hb3 (w.heap.size + 1) (by omega)
          have HB3 := Lib.hid (bthen HB2.out hb3)
          have hz3 : w.heap.size + 1 < w3.heap.size := by have := hb3.size; omega
          clear hb3
          go_wp2_with fail
          refine (hY _).mono ?_; rintro e w4 ⟨rfl, hb4⟩
          have p40 := rule hb4 (w.heap.size) (by omega)
          have p41 := rule hb4 (w.heap.size + 1) (by omega)
          have HB4 := Lib.hid (bthen HB3.out hb4)
          have hz4 : w.heap.size + 1 < w4.heap.size := by have := hb4.size; omega
          clear hb4
          go_wp2_with fail
          refine (HV.out _).mono ?_; rintro e w5 ⟨rfl, kq, rfl⟩
          have HB5 := Lib.hid (below_draw HB4.out kq)
          go_wp2_with fail
          refine (HG.out _).mono ?_; rintro e w6 ⟨bq, hbq, rfl, hro⟩
          have HRO := Lib.hid (hro.after HB5.out)
          clear hro
          go_wp2_with fail
          go_ret2
          exact HRO.out
        · have eM : madeO 2 v u = noO u := by unfold madeO; rw [if_neg hu]
          rw [eM]
          clear eM
          have HG := Lib.hid (fun W => refGives_no v u hu W)
          obtain ⟨ka, xa, ca, na, sa, ra, fa, la⟩ := a
          obtain ⟨kb, xb, cb, nb, sb, rb, fb, lb⟩ := b
          unfold Ob.vl at *
          simp only at *
          go_enter Tryd.func12, Tryd.ntmps12
          go_wp2_with fail
          refine (hNa _).mono ?_; rintro e w1 ⟨rfl, hb1⟩
          have p10 := rule hb1 (w.heap.size) (by simp <;> omega)
          have p11 := rule hb1 (w.heap.size + 1) (by simp <;> omega)
          have HB1 := Lib.hid (bthen (below2 _ _ _ ) hb1)
          have hz1 : w.heap.size + 1 < w1.heap.size := by have := hb1.size; simp at this; omega
          clear hb1
          go_wp2_with fail
          refine (hNb _).mono ?_; rintro e w2 ⟨rfl, hb2⟩
          have p20 := rule hb2 (w.heap.size) (by omega)
          have p21 := rule hb2 (w.heap.size + 1) (by omega)
          have HB2 := Lib.hid (bthen HB1.out hb2)
          have hz2 : w.heap.size + 1 < w2.heap.size := by have := hb2.size; omega
          clear hb2
          go_wp2_with fail
          refine (hX _).mono ?_; rintro e w3 ⟨rfl, hb3⟩
          have p30 := rule hb3 (w.heap.size) (by omega)
          have p31 := rule hb3 (w.heap.size + 1) (by omega)
          have HB3 := Lib.hid (bthen HB2.out hb3)
          have hz3 : w.heap.size + 1 < w3.heap.size := by have := hb3.size; omega
          clear hb3
          go_wp2_with fail
          refine (hY _).mono ?_; rintro e w4 ⟨rfl, hb4⟩
          have p40 := rule hb4 (w.heap.size) (by omega)
          have p41 := rule hb4 (w.heap.size + 1) (by omega)
          have HB4 := Lib.hid (bthen HB3.out hb4)
          have hz4 : w.heap.size + 1 < w4.heap.size := by have := hb4.size; omega
          clear hb4
          go_wp2_with fail
          refine (HV.out _).mono ?_; rintro e w5 ⟨rfl, kq, rfl⟩
          have HB5 := Lib.hid (below_draw HB4.out kq)
          go_wp2_with fail
          refine (HG.out _).mono ?_; rintro e w6 ⟨rfl, rfl⟩
          go_wp2_with fail
          go_ret2
          exact RefO.err hu HB5.out
      · rw [if_neg hb0]
        have hb0' : (eb == 0) = false := by simpa using hb0
        have HZ := Lib.hid hb0
        clear hb0
        obtain ⟨ka, xa, ca, na, sa, ra, fa, la⟩ := a
        obtain ⟨kb, xb, cb, nb, sb, rb, fb, lb⟩ := b
        unfold Ob.vl at *
        simp only at *
        go_enter Tryd.func12, Tryd.ntmps12
        go_wp2_with fail
        refine (hNa _).mono ?_; rintro e w1 ⟨rfl, hb1⟩
        have p10 := rule hb1 (w.heap.size) (by simp <;> omega)
        have p11 := rule hb1 (w.heap.size + 1) (by simp <;> omega)
        have HB1 := Lib.hid (bthen (below2 _ _ _ ) hb1)
        have hz1 : w.heap.size + 1 < w1.heap.size := by have := hb1.size; simp at this; omega
        clear hb1
        go_wp2_with fail
        refine (hNb _).mono ?_; rintro e w2 ⟨rfl, hb2⟩
        have p20 := rule hb2 (w.heap.size) (by omega)
        have p21 := rule hb2 (w.heap.size + 1) (by omega)
        have HB2 := Lib.hid (bthen HB1.out hb2)
        have hz2 : w.heap.size + 1 < w2.heap.size := by have := hb2.size; omega
        clear hb2
        go_wp2_with fail
        refine (hX _).mono ?_; rintro e w3 ⟨rfl, hb3⟩
        have p30 := rule hb3 (w.heap.size) (by omega)
        have p31 := rule hb3 (w.heap.size + 1) (by omega)
        have HB3 := Lib.hid (bthen HB2.out hb3)
        have hz3 : w.heap.size + 1 < w3.heap.size := by have := hb3.size; omega
        clear hb3
        go_wp2_with fail
        refine (hY _).mono ?_; rintro e w4 ⟨rfl, hb4⟩
        have p40 := rule hb4 (w.heap.size) (by omega)
        have p41 := rule hb4 (w.heap.size + 1) (by omega)
        have HB4 := Lib.hid (bthen HB3.out hb4)
        have hz4 : w.heap.size + 1 < w4.heap.size := by have := hb4.size; omega
        clear hb4
        go_wp2_with fail
        go_ret2
        exact RefO.err HZ.out HB4.out
    · rw [if_neg ha0]
      have ha0' : (ea == 0) = false := by simpa using ha0
      have HZ := Lib.hid ha0
      clear ha0
      obtain ⟨ka, xa, ca, na, sa, ra, fa, la⟩ := a
      obtain ⟨kb, xb, cb, nb, sb, rb, fb, lb⟩ := b
      unfold Ob.vl at *
      simp only at *
      go_enter Tryd.func12, Tryd.ntmps12
      go_wp2_with fail
      refine (hNa _).mono ?_; rintro e w1 ⟨rfl, hb1⟩
      have p10 := rule hb1 (w.heap.size) (by simp <;> omega)
      have p11 := rule hb1 (w.heap.size + 1) (by simp <;> omega)
      have HB1 := Lib.hid (bthen (below2 _ _ _ ) hb1)
      have hz1 : w.heap.size + 1 < w1.heap.size := by have := hb1.size; simp at this; omega
      clear hb1
      go_wp2_with fail
      refine (hNb _).mono ?_; rintro e w2 ⟨rfl, hb2⟩
      have p20 := rule hb2 (w.heap.size) (by omega)
      have p21 := rule hb2 (w.heap.size + 1) (by omega)
      have HB2 := Lib.hid (bthen HB1.out hb2)
      have hz2 : w.heap.size + 1 < w2.heap.size := by have := hb2.size; omega
      clear hb2
      go_wp2_with fail
      refine (hX _).mono ?_; rintro e w3 ⟨rfl, hb3⟩
      have p30 := rule hb3 (w.heap.size) (by omega)
      have p31 := rule hb3 (w.heap.size + 1) (by omega)
      have HB3 := Lib.hid (bthen HB2.out hb3)
      have hz3 : w.heap.size + 1 < w3.heap.size := by have := hb3.size; omega
      clear hb3
      go_wp2_with fail
      go_ret2
      exact RefO.err HZ.out HB3.out
theorem ref_div {a b : Ob} {B c : Nat} {w : World} (ha : At10 w B 0 a) (hb : At10 w B 10 b) : Calls Tryd.prog 12 #[.string ⟨#[100, 105, 118]⟩, .slice (some ⟨B, 0, none⟩) 2 c] w fun e w' => RefO w (realsO divV divE a b) e w' := by
  cases hn : (isNumB a && isNumB b)
  · exact ref_div_no ha hb hn
  · cases hka : (a.kind == 1)
    · exact ref_div_f ha hb hn hka
    · cases hkb : (b.kind == 1)
      · exact ref_div_tf ha hb hn hka hkb
      · exact ref_div_tt ha hb hn hka hkb
end Ari
end Go.Proofs.YtgbpldfcahajeaaDoor
