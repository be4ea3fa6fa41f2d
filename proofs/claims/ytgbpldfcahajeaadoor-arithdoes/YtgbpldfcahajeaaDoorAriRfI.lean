/-
  The document's own Arith: idiv, mod, bitshift (made by genref.py).
-/
import Derived.Test.YtgbpldfcahajeaaDoorAriRf
import Derived.Test.YtgbpldfcahajeaaDoorAriRfInt
import Derived.Test.YtgbpldfcahajeaaDoorAriRfBw
import Derived.Deep.RegionWith
namespace Go.Proofs.YtgbpldfcahajeaaDoor
open Go.RowKit
open Fx
namespace Ari
set_option maxHeartbeats 2000000 in
set_option maxRecDepth 100000 in
theorem ref_idiv_no {a b : Ob} {B c : Nat} {w : World} (ha : At10 w B 0 a) (hb : At10 w B 10 b) (hn : (isIntB a && isIntB b) = false) : Calls Tryd.prog 12 #[.string ⟨#[105, 100, 105, 118]⟩, .slice (some ⟨B, 0, none⟩) 2 c] w fun e w' => RefO w (intsO quoV quoE a b) e w' := by
    have e0 : intsO quoV quoE a b = noO 16 := by unfold intsO; rw [hn]; rfl
    rw [e0]
    clear e0
    have hNa := refInt_at a
    have hNb := refInt_at b
    obtain ⟨a0, a1, a2, a3, a4, a5, a6, a7, a8, a9⟩ := ha
    obtain ⟨b0, b1, b2, b3, b4, b5, b6, b7, b8, b9⟩ := hb
    simp only [Nat.zero_add, Nat.reduceAdd] at *
    have hlt := World.block_lt_of_cell? w _ a0
    cases h1 : isIntB a
    · rw [h1] at hNa
      clear h1 hn hNb
      obtain ⟨ka, xa, ca, na, sa, ra, fa, la⟩ := a
      obtain ⟨kb, xb, cb, nb, sb, rb, fb, lb⟩ := b
      unfold Ob.vl at *
      simp only at *
      go_enter Tryd.func12, Tryd.ntmps12
      go_wp2_with fail
      refine (hNa _).mono ?_; rintro e w1 ⟨rfl, hb1⟩
      have p10 := rule hb1 (w.heap.size) (by simp <;> omega)
      have p11 := rule hb1 (w.heap.size + 1) (by simp <;> omega)
      have HB1 := Lib.hid (bthen (below2 _ _ _ ) hb1)
      have hz1 : w.heap.size + 1 < w1.heap.size := by have := hb1.size; simp at this; omega
      clear hb1
      go_wp2_with fail
      go_ret2
      exact RefO.err (by decide) HB1.out
    · have h2 : isIntB b = false := by rw [h1] at hn; simpa using hn
      rw [h1] at hNa
      rw [h2] at hNb
      clear h1 h2 hn
      obtain ⟨ka, xa, ca, na, sa, ra, fa, la⟩ := a
      obtain ⟨kb, xb, cb, nb, sb, rb, fb, lb⟩ := b
      unfold Ob.vl at *
      simp only at *
      go_enter Tryd.func12, Tryd.ntmps12
      go_wp2_with fail
      refine (hNa _).mono ?_; rintro e w1 ⟨rfl, hb1⟩
      have p10 := rule hb1 (w.heap.size) (by simp <;> omega)
      have p11 := rule hb1 (w.heap.size + 1) (by simp <;> omega)
      have HB1 := Lib.hid (bthen (below2 _ _ _ ) hb1)
      have hz1 : w.heap.size + 1 < w1.heap.size := by have := hb1.size; simp at this; omega
      clear hb1
      go_wp2_with fail
      refine (hNb _).mono ?_; rintro e w2 ⟨rfl, hb2⟩
      have p20 := rule hb2 (w.heap.size) (by omega)
      have p21 := rule hb2 (w.heap.size + 1) (by omega)
      have HB2 := Lib.hid (bthen HB1.out hb2)
      have hz2 : w.heap.size + 1 < w2.heap.size := by have := hb2.size; omega
      clear hb2
      go_wp2_with fail
      go_ret2
      exact RefO.err (by decide) HB2.out
set_option maxHeartbeats 2000000 in
set_option maxRecDepth 100000 in
theorem ref_idiv_ok {a b : Ob} {B c : Nat} {w : World} (ha : At10 w B 0 a) (hb : At10 w B 10 b) (hn : (isIntB a && isIntB b) = true) (v : Int) (he : intsO quoV quoE a b = okO 1 v) (HI : ∀ W, Calls Tryd.prog 26 #[.string ⟨#[105, 100, 105, 118]⟩, .int .i64 a.n, .int .i64 b.n] W fun e w' => ∃ bq, W.heap.size ≤ bq ∧ e = .returned (.tuple #[.slice (some ⟨bq, 0, none⟩) 1 1, .int .i64 0]) ∧ RefO W (okO 1 v) (.returned (.tuple #[.slice (some ⟨bq, 0, none⟩) 1 1, .int .i64 0])) w') : Calls Tryd.prog 12 #[.string ⟨#[105, 100, 105, 118]⟩, .slice (some ⟨B, 0, none⟩) 2 c] w fun e w' => RefO w (intsO quoV quoE a b) e w' := by
    rw [he]
    clear he
    rw [Bool.and_eq_true] at hn
    have hNa := refInt_at a
    have hNb := refInt_at b
    rw [hn.1] at hNa
    rw [hn.2] at hNb
    clear hn
    obtain ⟨a0, a1, a2, a3, a4, a5, a6, a7, a8, a9⟩ := ha
    obtain ⟨b0, b1, b2, b3, b4, b5, b6, b7, b8, b9⟩ := hb
    simp only [Nat.zero_add, Nat.reduceAdd] at *
    have hlt := World.block_lt_of_cell? w _ a0
    obtain ⟨ka, xa, ca, na, sa, ra, fa, la⟩ := a
    obtain ⟨kb, xb, cb, nb, sb, rb, fb, lb⟩ := b
    unfold Ob.vl at *
    simp only at *
    go_enter Tryd.func12, Tryd.ntmps12
    go_wp2_with fail
    refine (hNa _).mono ?_; rintro e w1 ⟨rfl, hb1⟩
    have p10 := rule hb1 (w.heap.size) (by simp <;> omega)
    have p11 := rule hb1 (w.heap.size + 1) (by simp <;> omega)
    have HB1 := Lib.hid (bthen (below2 _ _ _ ) hb1)
    have hz1 : w.heap.size + 1 < w1.heap.size := by have := hb1.size; simp at this; omega
    clear hb1
    go_wp2_with fail
    refine (hNb _).mono ?_; rintro e w2 ⟨rfl, hb2⟩
    have p20 := rule hb2 (w.heap.size) (by omega)
    have p21 := rule hb2 (w.heap.size + 1) (by omega)
    have HB2 := Lib.hid (bthen HB1.out hb2)
    have hz2 : w.heap.size + 1 < w2.heap.size := by have := hb2.size; omega
    clear hb2
    go_wp2_with fail
    refine (HI _).mono ?_; rintro e w3 ⟨bq, hbq, rfl, hro⟩
    have HRO := Lib.hid (hro.after HB2.out)
    clear hro
    go_wp2_with fail
    go_ret2
    exact HRO.out
set_option maxHeartbeats 2000000 in
set_option maxRecDepth 100000 in
theorem ref_idiv_er {a b : Ob} {B c : Nat} {w : World} (ha : At10 w B 0 a) (hb : At10 w B 10 b) (hn : (isIntB a && isIntB b) = true) (he : intsO quoV quoE a b = noO 18) (HI : ∀ W, Calls Tryd.prog 26 #[.string ⟨#[105, 100, 105, 118]⟩, .int .i64 a.n, .int .i64 b.n] W fun e w' => RefO W (noO 18) e w') : Calls Tryd.prog 12 #[.string ⟨#[105, 100, 105, 118]⟩, .slice (some ⟨B, 0, none⟩) 2 c] w fun e w' => RefO w (intsO quoV quoE a b) e w' := by
    rw [he]
    clear he
    rw [Bool.and_eq_true] at hn
    have hNa := refInt_at a
    have hNb := refInt_at b
    rw [hn.1] at hNa
    rw [hn.2] at hNb
    clear hn
    obtain ⟨a0, a1, a2, a3, a4, a5, a6, a7, a8, a9⟩ := ha
    obtain ⟨b0, b1, b2, b3, b4, b5, b6, b7, b8, b9⟩ := hb
    simp only [Nat.zero_add, Nat.reduceAdd] at *
    have hlt := World.block_lt_of_cell? w _ a0
    obtain ⟨ka, xa, ca, na, sa, ra, fa, la⟩ := a
    obtain ⟨kb, xb, cb, nb, sb, rb, fb, lb⟩ := b
    unfold Ob.vl at *
    simp only at *
    go_enter Tryd.func12, Tryd.ntmps12
    go_wp2_with fail
    refine (hNa _).mono ?_; rintro e w1 ⟨rfl, hb1⟩
    have p10 := rule hb1 (w.heap.size) (by simp <;> omega)
    have p11 := rule hb1 (w.heap.size + 1) (by simp <;> omega)
    have HB1 := Lib.hid (bthen (below2 _ _ _ ) hb1)
    have hz1 : w.heap.size + 1 < w1.heap.size := by have := hb1.size; simp at this; omega
    clear hb1
    go_wp2_with fail
    refine (hNb _).mono ?_; rintro e w2 ⟨rfl, hb2⟩
    have p20 := rule hb2 (w.heap.size) (by omega)
    have p21 := rule hb2 (w.heap.size + 1) (by omega)
    have HB2 := Lib.hid (bthen HB1.out hb2)
    have hz2 : w.heap.size + 1 < w2.heap.size := by have := hb2.size; omega
    clear hb2
    go_wp2_with fail
    refine (HI _).mono ?_; rintro e w3 hro
    obtain rfl := hro.no (by decide)
    have HRO := Lib.hid (hro.after HB2.out)
    clear hro
    go_wp2_with fail
    go_ret2
    exact HRO.out
theorem ref_idiv {a b : Ob} {B c : Nat} {w : World} (ha : At10 w B 0 a) (hb : At10 w B 10 b) : Calls Tryd.prog 12 #[.string ⟨#[105, 100, 105, 118]⟩, .slice (some ⟨B, 0, none⟩) 2 c] w fun e w' => RefO w (intsO quoV quoE a b) e w' := by
  cases hn : (isIntB a && isIntB b)
  · exact ref_idiv_no ha hb hn
  · have hi := hn
    rw [Bool.and_eq_true] at hi
    obtain ⟨-, x1, x2⟩ := (isInt_iff a).1 hi.1
    obtain ⟨-, y1, y2⟩ := (isInt_iff b).1 hi.2
    have fa := (fits_iff a.n).2 ⟨x1, x2⟩
    have fb := (fits_iff b.n).2 ⟨y1, y2⟩
    have e0 : intsO quoV quoE a b = madeO 1 (quoV a.n b.n) (quoE a.n b.n) := by unfold intsO; rw [if_pos hn]
    by_cases h0 : b.n = 0
    · exact ref_idiv_er ha hb hn (by rw [e0]; unfold quoE quoV; rw [if_pos (.inl h0), if_pos (.inl h0)]; rfl) (fun W => by rw [h0]; exact refInts_nul _ (.inl rfl) a.n W)
    · cases hf : fits (a.n.tdiv b.n)
      · have hx : a.n = -2147483648 ∧ b.n = -1 := by
          have q := tdiv_bd a.n b.n 2147483648 (by omega) (by omega)
          have hq : a.n.tdiv b.n = 2147483648 := by
            have hnf : ¬ (fits (a.n.tdiv b.n) = true) := by rw [hf]; simp
            rw [fits_iff] at hnf; omega
          have e := Int.mul_tdiv_add_tmod a.n b.n
          have r := tmod_bd a.n b.n h0 2147483648 (by omega) (by omega)
          rw [hq] at e
          have r1 := Int.natAbs_tmod a.n b.n
          have r2 := Nat.mod_lt a.n.natAbs (show 0 < b.n.natAbs by omega)
          rw [← r1] at r2
          omega
        exact ref_idiv_er ha hb hn (by rw [e0]; unfold quoE quoV; rw [if_pos (.inr hx), if_pos (.inr hx)]; rfl) (fun W => refInts_idiv_no a.n b.n fa fb h0 hf W)
      · have hx : ¬ (b.n = 0 ∨ (a.n = -2147483648 ∧ b.n = -1)) := by
          rintro (h | ⟨h1, h2⟩)
          · exact h0 h
          · rw [h1, h2] at hf; revert hf; decide
        exact ref_idiv_ok ha hb hn (a.n.tdiv b.n) (by rw [e0]; unfold quoE quoV; rw [if_neg hx, if_neg hx]; rfl) (fun W => refInts_idiv a.n b.n fa fb h0 hf W)
set_option maxHeartbeats 2000000 in
set_option maxRecDepth 100000 in
theorem ref_mod_no {a b : Ob} {B c : Nat} {w : World} (ha : At10 w B 0 a) (hb : At10 w B 10 b) (hn : (isIntB a && isIntB b) = false) : Calls Tryd.prog 12 #[.string ⟨#[109, 111, 100]⟩, .slice (some ⟨B, 0, none⟩) 2 c] w fun e w' => RefO w (intsO remV remE a b) e w' := by
    have e0 : intsO remV remE a b = noO 16 := by unfold intsO; rw [hn]; rfl
    rw [e0]
    clear e0
    have hNa := refInt_at a
    have hNb := refInt_at b
    obtain ⟨a0, a1, a2, a3, a4, a5, a6, a7, a8, a9⟩ := ha
    obtain ⟨b0, b1, b2, b3, b4, b5, b6, b7, b8, b9⟩ := hb
    simp only [Nat.zero_add, Nat.reduceAdd] at *
    have hlt := World.block_lt_of_cell? w _ a0
    cases h1 : isIntB a
    · rw [h1] at hNa
      clear h1 hn hNb
      obtain ⟨ka, xa, ca, na, sa, ra, fa, la⟩ := a
      obtain ⟨kb, xb, cb, nb, sb, rb, fb, lb⟩ := b
      unfold Ob.vl at *
      simp only at *
      go_enter Tryd.func12, Tryd.ntmps12
      go_wp2_with fail
      refine (hNa _).mono ?_; rintro e w1 ⟨rfl, hb1⟩
      have p10 := rule hb1 (w.heap.size) (by simp <;> omega)
      have p11 := rule hb1 (w.heap.size + 1) (by simp <;> omega)
      have HB1 := Lib.hid (bthen (below2 _ _ _ ) hb1)
      have hz1 : w.heap.size + 1 < w1.heap.size := by have := hb1.size; simp at this; omega
      clear hb1
      go_wp2_with fail
      go_ret2
      exact RefO.err (by decide) HB1.out
    · have h2 : isIntB b = false := by rw [h1] at hn; simpa using hn
      rw [h1] at hNa
      rw [h2] at hNb
      clear h1 h2 hn
      obtain ⟨ka, xa, ca, na, sa, ra, fa, la⟩ := a
      obtain ⟨kb, xb, cb, nb, sb, rb, fb, lb⟩ := b
      unfold Ob.vl at *
      simp only at *
      go_enter Tryd.func12, Tryd.ntmps12
      go_wp2_with fail
      refine (hNa _).mono ?_; rintro e w1 ⟨rfl, hb1⟩
      have p10 := rule hb1 (w.heap.size) (by simp <;> omega)
      have p11 := rule hb1 (w.heap.size + 1) (by simp <;> omega)
      have HB1 := Lib.hid (bthen (below2 _ _ _ ) hb1)
      have hz1 : w.heap.size + 1 < w1.heap.size := by have := hb1.size; simp at this; omega
      clear hb1
      go_wp2_with fail
      refine (hNb _).mono ?_; rintro e w2 ⟨rfl, hb2⟩
      have p20 := rule hb2 (w.heap.size) (by omega)
      have p21 := rule hb2 (w.heap.size + 1) (by omega)
      have HB2 := Lib.hid (bthen HB1.out hb2)
      have hz2 : w.heap.size + 1 < w2.heap.size := by have := hb2.size; omega
      clear hb2
      go_wp2_with fail
      go_ret2
      exact RefO.err (by decide) HB2.out
set_option maxHeartbeats 2000000 in
set_option maxRecDepth 100000 in
theorem ref_mod_ok {a b : Ob} {B c : Nat} {w : World} (ha : At10 w B 0 a) (hb : At10 w B 10 b) (hn : (isIntB a && isIntB b) = true) (v : Int) (he : intsO remV remE a b = okO 1 v) (HI : ∀ W, Calls Tryd.prog 26 #[.string ⟨#[109, 111, 100]⟩, .int .i64 a.n, .int .i64 b.n] W fun e w' => ∃ bq, W.heap.size ≤ bq ∧ e = .returned (.tuple #[.slice (some ⟨bq, 0, none⟩) 1 1, .int .i64 0]) ∧ RefO W (okO 1 v) (.returned (.tuple #[.slice (some ⟨bq, 0, none⟩) 1 1, .int .i64 0])) w') : Calls Tryd.prog 12 #[.string ⟨#[109, 111, 100]⟩, .slice (some ⟨B, 0, none⟩) 2 c] w fun e w' => RefO w (intsO remV remE a b) e w' := by
    rw [he]
    clear he
    rw [Bool.and_eq_true] at hn
    have hNa := refInt_at a
    have hNb := refInt_at b
    rw [hn.1] at hNa
    rw [hn.2] at hNb
    clear hn
    obtain ⟨a0, a1, a2, a3, a4, a5, a6, a7, a8, a9⟩ := ha
    obtain ⟨b0, b1, b2, b3, b4, b5, b6, b7, b8, b9⟩ := hb
    simp only [Nat.zero_add, Nat.reduceAdd] at *
    have hlt := World.block_lt_of_cell? w _ a0
    obtain ⟨ka, xa, ca, na, sa, ra, fa, la⟩ := a
    obtain ⟨kb, xb, cb, nb, sb, rb, fb, lb⟩ := b
    unfold Ob.vl at *
    simp only at *
    go_enter Tryd.func12, Tryd.ntmps12
    go_wp2_with fail
    refine (hNa _).mono ?_; rintro e w1 ⟨rfl, hb1⟩
    have p10 := rule hb1 (w.heap.size) (by simp <;> omega)
    have p11 := rule hb1 (w.heap.size + 1) (by simp <;> omega)
    have HB1 := Lib.hid (bthen (below2 _ _ _ ) hb1)
    have hz1 : w.heap.size + 1 < w1.heap.size := by have := hb1.size; simp at this; omega
    clear hb1
    go_wp2_with fail
    refine (hNb _).mono ?_; rintro e w2 ⟨rfl, hb2⟩
    have p20 := rule hb2 (w.heap.size) (by omega)
    have p21 := rule hb2 (w.heap.size + 1) (by omega)
    have HB2 := Lib.hid (bthen HB1.out hb2)
    have hz2 : w.heap.size + 1 < w2.heap.size := by have := hb2.size; omega
    clear hb2
    go_wp2_with fail
    refine (HI _).mono ?_; rintro e w3 ⟨bq, hbq, rfl, hro⟩
    have HRO := Lib.hid (hro.after HB2.out)
    clear hro
    go_wp2_with fail
    go_ret2
    exact HRO.out
set_option maxHeartbeats 2000000 in
set_option maxRecDepth 100000 in
theorem ref_mod_er {a b : Ob} {B c : Nat} {w : World} (ha : At10 w B 0 a) (hb : At10 w B 10 b) (hn : (isIntB a && isIntB b) = true) (he : intsO remV remE a b = noO 18) (HI : ∀ W, Calls Tryd.prog 26 #[.string ⟨#[109, 111, 100]⟩, .int .i64 a.n, .int .i64 b.n] W fun e w' => RefO W (noO 18) e w') : Calls Tryd.prog 12 #[.string ⟨#[109, 111, 100]⟩, .slice (some ⟨B, 0, none⟩) 2 c] w fun e w' => RefO w (intsO remV remE a b) e w' := by
    rw [he]
    clear he
    rw [Bool.and_eq_true] at hn
    have hNa := refInt_at a
    have hNb := refInt_at b
    rw [hn.1] at hNa
    rw [hn.2] at hNb
    clear hn
    obtain ⟨a0, a1, a2, a3, a4, a5, a6, a7, a8, a9⟩ := ha
    obtain ⟨b0, b1, b2, b3, b4, b5, b6, b7, b8, b9⟩ := hb
    simp only [Nat.zero_add, Nat.reduceAdd] at *
    have hlt := World.block_lt_of_cell? w _ a0
    obtain ⟨ka, xa, ca, na, sa, ra, fa, la⟩ := a
    obtain ⟨kb, xb, cb, nb, sb, rb, fb, lb⟩ := b
    unfold Ob.vl at *
    simp only at *
    go_enter Tryd.func12, Tryd.ntmps12
    go_wp2_with fail
    refine (hNa _).mono ?_; rintro e w1 ⟨rfl, hb1⟩
    have p10 := rule hb1 (w.heap.size) (by simp <;> omega)
    have p11 := rule hb1 (w.heap.size + 1) (by simp <;> omega)
    have HB1 := Lib.hid (bthen (below2 _ _ _ ) hb1)
    have hz1 : w.heap.size + 1 < w1.heap.size := by have := hb1.size; simp at this; omega
    clear hb1
    go_wp2_with fail
    refine (hNb _).mono ?_; rintro e w2 ⟨rfl, hb2⟩
    have p20 := rule hb2 (w.heap.size) (by omega)
    have p21 := rule hb2 (w.heap.size + 1) (by omega)
    have HB2 := Lib.hid (bthen HB1.out hb2)
    have hz2 : w.heap.size + 1 < w2.heap.size := by have := hb2.size; omega
    clear hb2
    go_wp2_with fail
    refine (HI _).mono ?_; rintro e w3 hro
    obtain rfl := hro.no (by decide)
    have HRO := Lib.hid (hro.after HB2.out)
    clear hro
    go_wp2_with fail
    go_ret2
    exact HRO.out
theorem ref_mod {a b : Ob} {B c : Nat} {w : World} (ha : At10 w B 0 a) (hb : At10 w B 10 b) : Calls Tryd.prog 12 #[.string ⟨#[109, 111, 100]⟩, .slice (some ⟨B, 0, none⟩) 2 c] w fun e w' => RefO w (intsO remV remE a b) e w' := by
  cases hn : (isIntB a && isIntB b)
  · exact ref_mod_no ha hb hn
  · have hi := hn
    rw [Bool.and_eq_true] at hi
    obtain ⟨-, x1, x2⟩ := (isInt_iff a).1 hi.1
    obtain ⟨-, y1, y2⟩ := (isInt_iff b).1 hi.2
    have fa := (fits_iff a.n).2 ⟨x1, x2⟩
    have fb := (fits_iff b.n).2 ⟨y1, y2⟩
    have e0 : intsO remV remE a b = madeO 1 (remV a.n b.n) (remE a.n b.n) := by unfold intsO; rw [if_pos hn]
    by_cases h0 : b.n = 0
    · exact ref_mod_er ha hb hn (by rw [e0]; unfold remE remV; rw [if_pos h0, if_pos h0]; rfl) (fun W => by rw [h0]; exact refInts_nul _ (.inr rfl) a.n W)
    · exact ref_mod_ok ha hb hn (a.n.tmod b.n) (by rw [e0]; unfold remE remV; rw [if_neg h0, if_neg h0]; rfl) (fun W => refInts_mod a.n b.n fa fb h0 W)
set_option maxHeartbeats 2000000 in
set_option maxRecDepth 100000 in
theorem ref_bitshift_no {a b : Ob} {B c : Nat} {w : World} (ha : At10 w B 0 a) (hb : At10 w B 10 b) (hn : (isIntB a && isIntB b) = false) : Calls Tryd.prog 12 #[.string ⟨#[98, 105, 116, 115, 104, 105, 102, 116]⟩, .slice (some ⟨B, 0, none⟩) 2 c] w fun e w' => RefO w (intsO shiV (fun _ _ => 0) a b) e w' := by
    have e0 : intsO shiV (fun _ _ => 0) a b = noO 16 := by unfold intsO; rw [hn]; rfl
    rw [e0]
    clear e0
    have hNa := refInt_at a
    have hNb := refInt_at b
    obtain ⟨a0, a1, a2, a3, a4, a5, a6, a7, a8, a9⟩ := ha
    obtain ⟨b0, b1, b2, b3, b4, b5, b6, b7, b8, b9⟩ := hb
    simp only [Nat.zero_add, Nat.reduceAdd] at *
    have hlt := World.block_lt_of_cell? w _ a0
    cases h1 : isIntB a
    · rw [h1] at hNa
      clear h1 hn hNb
      obtain ⟨ka, xa, ca, na, sa, ra, fa, la⟩ := a
      obtain ⟨kb, xb, cb, nb, sb, rb, fb, lb⟩ := b
      unfold Ob.vl at *
      simp only at *
      go_enter Tryd.func12, Tryd.ntmps12
      go_wp2_with fail
      refine (hNa _).mono ?_; rintro e w1 ⟨rfl, hb1⟩
      have p10 := rule hb1 (w.heap.size) (by simp <;> omega)
      have p11 := rule hb1 (w.heap.size + 1) (by simp <;> omega)
      have HB1 := Lib.hid (bthen (below2 _ _ _ ) hb1)
      have hz1 : w.heap.size + 1 < w1.heap.size := by have := hb1.size; simp at this; omega
      clear hb1
      go_wp2_with fail
      go_ret2
      exact RefO.err (by decide) HB1.out
    · have h2 : isIntB b = false := by rw [h1] at hn; simpa using hn
      rw [h1] at hNa
      rw [h2] at hNb
      clear h1 h2 hn
      obtain ⟨ka, xa, ca, na, sa, ra, fa, la⟩ := a
      obtain ⟨kb, xb, cb, nb, sb, rb, fb, lb⟩ := b
      unfold Ob.vl at *
      simp only at *
      go_enter Tryd.func12, Tryd.ntmps12
      go_wp2_with fail
      refine (hNa _).mono ?_; rintro e w1 ⟨rfl, hb1⟩
      have p10 := rule hb1 (w.heap.size) (by simp <;> omega)
      have p11 := rule hb1 (w.heap.size + 1) (by simp <;> omega)
      have HB1 := Lib.hid (bthen (below2 _ _ _ ) hb1)
      have hz1 : w.heap.size + 1 < w1.heap.size := by have := hb1.size; simp at this; omega
      clear hb1
      go_wp2_with fail
      refine (hNb _).mono ?_; rintro e w2 ⟨rfl, hb2⟩
      have p20 := rule hb2 (w.heap.size) (by omega)
      have p21 := rule hb2 (w.heap.size + 1) (by omega)
      have HB2 := Lib.hid (bthen HB1.out hb2)
      have hz2 : w.heap.size + 1 < w2.heap.size := by have := hb2.size; omega
      clear hb2
      go_wp2_with fail
      go_ret2
      exact RefO.err (by decide) HB2.out
set_option maxHeartbeats 2000000 in
set_option maxRecDepth 100000 in
theorem ref_bitshift_ok {a b : Ob} {B c : Nat} {w : World} (ha : At10 w B 0 a) (hb : At10 w B 10 b) (hn : (isIntB a && isIntB b) = true) (v : Int) (he : intsO shiV (fun _ _ => 0) a b = okO 1 v) (HI : ∀ W, Calls Tryd.prog 26 #[.string ⟨#[98, 105, 116, 115, 104, 105, 102, 116]⟩, .int .i64 a.n, .int .i64 b.n] W fun e w' => ∃ bq, W.heap.size ≤ bq ∧ e = .returned (.tuple #[.slice (some ⟨bq, 0, none⟩) 1 1, .int .i64 0]) ∧ RefO W (okO 1 v) (.returned (.tuple #[.slice (some ⟨bq, 0, none⟩) 1 1, .int .i64 0])) w') : Calls Tryd.prog 12 #[.string ⟨#[98, 105, 116, 115, 104, 105, 102, 116]⟩, .slice (some ⟨B, 0, none⟩) 2 c] w fun e w' => RefO w (intsO shiV (fun _ _ => 0) a b) e w' := by
    rw [he]
    clear he
    rw [Bool.and_eq_true] at hn
    have hNa := refInt_at a
    have hNb := refInt_at b
    rw [hn.1] at hNa
    rw [hn.2] at hNb
    clear hn
    obtain ⟨a0, a1, a2, a3, a4, a5, a6, a7, a8, a9⟩ := ha
    obtain ⟨b0, b1, b2, b3, b4, b5, b6, b7, b8, b9⟩ := hb
    simp only [Nat.zero_add, Nat.reduceAdd] at *
    have hlt := World.block_lt_of_cell? w _ a0
    obtain ⟨ka, xa, ca, na, sa, ra, fa, la⟩ := a
    obtain ⟨kb, xb, cb, nb, sb, rb, fb, lb⟩ := b
    unfold Ob.vl at *
    simp only at *
    go_enter Tryd.func12, Tryd.ntmps12
    go_wp2_with fail
    refine (hNa _).mono ?_; rintro e w1 ⟨rfl, hb1⟩
    have p10 := rule hb1 (w.heap.size) (by simp <;> omega)
    have p11 := rule hb1 (w.heap.size + 1) (by simp <;> omega)
    have HB1 := Lib.hid (bthen (below2 _ _ _ ) hb1)
    have hz1 : w.heap.size + 1 < w1.heap.size := by have := hb1.size; simp at this; omega
    clear hb1
    go_wp2_with fail
    refine (hNb _).mono ?_; rintro e w2 ⟨rfl, hb2⟩
    have p20 := rule hb2 (w.heap.size) (by omega)
    have p21 := rule hb2 (w.heap.size + 1) (by omega)
    have HB2 := Lib.hid (bthen HB1.out hb2)
    have hz2 : w.heap.size + 1 < w2.heap.size := by have := hb2.size; omega
    clear hb2
    go_wp2_with fail
    refine (HI _).mono ?_; rintro e w3 ⟨bq, hbq, rfl, hro⟩
    have HRO := Lib.hid (hro.after HB2.out)
    clear hro
    go_wp2_with fail
    go_ret2
    exact HRO.out
theorem ref_bitshift {a b : Ob} {B c : Nat} {w : World} (ha : At10 w B 0 a) (hb : At10 w B 10 b) : Calls Tryd.prog 12 #[.string ⟨#[98, 105, 116, 115, 104, 105, 102, 116]⟩, .slice (some ⟨B, 0, none⟩) 2 c] w fun e w' => RefO w (intsO shiV (fun _ _ => 0) a b) e w' := by
  cases hn : (isIntB a && isIntB b)
  · exact ref_bitshift_no ha hb hn
  · have hi := hn
    rw [Bool.and_eq_true] at hi
    obtain ⟨-, x1, x2⟩ := (isInt_iff a).1 hi.1
    obtain ⟨-, y1, y2⟩ := (isInt_iff b).1 hi.2
    have fa := (fits_iff a.n).2 ⟨x1, x2⟩
    have fb := (fits_iff b.n).2 ⟨y1, y2⟩
    have e0 : intsO shiV (fun _ _ => 0) a b = madeO 1 (shiV a.n b.n) ((fun _ _ => 0) a.n b.n) := by unfold intsO; rw [if_pos hn]
    refine ref_bitshift_ok ha hb hn (shiV a.n b.n) (by rw [e0]; rfl) (fun W => ?_)
    by_cases hfar : 31 < b.n ∨ b.n < -31
    · rw [far_shift hfar]; exact refInts_far a.n b.n x1 x2 hfar W
    · rcases Int.lt_or_le b.n 0 with hl | hl
      · obtain ⟨J, hJ⟩ : ∃ J : Nat, b.n = -(J : Int) := ⟨(-b.n).toNat, by omega⟩
        rw [hJ]
        unfold shiV
        rw [if_pos (by omega), show min (- -(J : Int)).toNat 32 = J by omega]
        rcases Int.lt_or_le a.n 0 with hs | hs
        · rw [show a.n % 4294967296 = a.n + 4294967296 by omega]
          exact refInts_shr_neg a.n J hs x1 (by omega) (by omega) W
        · rw [show a.n % 4294967296 = a.n by omega]
          exact refInts_shr_pos a.n J hs x2 (by omega) (by omega) W
      · obtain ⟨J, hJ⟩ : ∃ J : Nat, b.n = (J : Int) := ⟨b.n.toNat, by omega⟩
        rw [hJ]
        unfold shiV
        rw [if_neg (by omega), show min ((J : Int)).toNat 32 = J by omega]
        rcases Int.lt_or_le a.n 0 with hs | hs
        · rw [show a.n % 4294967296 = a.n + 4294967296 by omega]
          exact refInts_shl_neg a.n J hs x1 (by omega) W
        · rw [show a.n % 4294967296 = a.n by omega]
          exact refInts_shl_pos a.n J hs x2 (by omega) W
end Ari
end Go.Proofs.YtgbpldfcahajeaaDoor
