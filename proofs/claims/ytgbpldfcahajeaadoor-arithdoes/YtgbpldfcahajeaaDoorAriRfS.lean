/-
  The document's own Arith: idiv, mod, bitshift (made by genref.py).
  The document's own Arith: and, or, xor (made by genref.py).
-/
import Derived.Test.YtgbpldfcahajeaaDoorAriRf
import Derived.Test.YtgbpldfcahajeaaDoorAriRfInt
import Derived.Test.YtgbpldfcahajeaaDoorAriRfBw
import Derived.Deep.RegionWith
namespace Go.Proofs.YtgbpldfcahajeaaDoor
open Go.RowKit
open Fx
namespace Ari
set_option maxHeartbeats 2000000 in
set_option maxRecDepth 100000 in
theorem ref_idiv_no {a b : Ob} {B c : Nat} {w : World} (ha : At10 w B 0 a) (hb : At10 w B 10 b) (hn : (isIntB a && isIntB b) = false) : Calls Tryd.prog 12 #[.string ⟨#[105, 100, 105, 118]⟩, .slice (some ⟨B, 0, none⟩) 2 c] w fun e w' => RefO w (intsO quoV quoE a b) e w' := by
    have e0 : intsO quoV quoE a b = noO 16 := by unfold intsO; rw [hn]; rfl
    rw [e0]
    clear e0
    have hNa := refInt_at a
    have hNb := refInt_at b
    obtain ⟨a0, a1, a2, a3, a4, a5, a6, a7, a8, a9⟩ := ha
    obtain ⟨b0, b1, b2, b3, b4, b5, b6, b7, b8, b9⟩ := hb
    simp only [Nat.zero_add, Nat.reduceAdd] at *
    have hlt := World.block_lt_of_cell? w _ a0
    cases h1 : isIntB a
    · rw [h1] at hNa
      clear h1 hn hNb
      obtain ⟨ka, xa, ca, na, sa, ra, fa, la⟩ := a
      obtain ⟨kb, xb, cb, nb, sb, rb, fb, lb⟩ := b
      unfold Ob.vl at *
      simp only at *
      go_enter Tryd.func12, Tryd.ntmps12
      go_wp2_with fail
      refine (hNa _).mono ?_; rintro e w1 ⟨rfl, hb1⟩
      have p10 := rule hb1 (w.heap.size) (by simp <;> omega)
      have p11 := rule hb1 (w.heap.size + 1) (by simp <;> omega)
      have HB1 := Lib.hid (bthen (below2 _ _ _ ) hb1)
      have hz1 : w.heap.size + 1 < w1.heap.size := by have := hb1.size; simp at this; omega
      clear hb1
      go_wp2_with fail
      go_ret2
      exact RefO.err (by decide) HB1.out
    · have h2 : isIntB b = false := by rw [h1] at hn; simpa using hn
      rw [h1] at hNa
      rw [h2] at hNb
      clear h1 h2 hn
      obtain ⟨ka, xa, ca, na, sa, ra, fa, la⟩ := a
      obtain ⟨kb, xb, cb, nb, sb, rb, fb, lb⟩ := b
      unfold Ob.vl at *
      simp only at *
      go_enter Tryd.func12, Tryd.ntmps12
      go_wp2_with fail
      refine (hNa _).mono ?_; rintro e w1 ⟨rfl, hb1⟩
      have p10 := rule hb1 (w.heap.size) (by simp <;> omega)
      have p11 := rule hb1 (w.heap.size + 1) (by simp <;> omega)
      have HB1 := Lib.hid (bthen (below2 _ _ _ ) hb1)
      have hz1 : w.heap.size + 1 < w1.heap.size := by have := hb1.size; simp at this; omega
      clear hb1
      go_wp2_with fail
      refine (hNb _).mono ?_; rintro e w2 ⟨rfl, hb2⟩
      have p20 := rule hb2 (w.heap.size) (by omega)
      have p21 := rule hb2 (w.heap.size + 1) (by omega)
      have HB2 := Lib.hid (bthen HB1.out hb2)
      have hz2 : w.heap.size + 1 < w2.heap.size := by have := hb2.size; omega
      clear hb2
      go_wp2_with fail
      go_ret2
      exact RefO.err (by decide) HB2.out
set_option maxHeartbeats 2000000 in
set_option maxRecDepth 100000 in
theorem ref_idiv_ok {a b : Ob} {B c : Nat} {w : World} (ha : At10 w B 0 a) (hb : At10 w B 10 b) (hn : (isIntB a && isIntB b) = true) (v : Int) (he : intsO quoV quoE a b = okO 1 v) (HI : ∀ W, Calls Tryd.prog 26 #[.string ⟨#[105, 100, 105, 118]⟩, .int .i64 a.n, .int .i64 b.n] W fun e w' => ∃ bq, W.heap.size ≤ bq ∧ e = .returned (.tuple #[.slice (some ⟨bq, 0, none⟩) 1 1, .int .i64 0]) ∧ RefO W (okO 1 v) (.returned (.tuple #[.slice (some ⟨bq, 0, none⟩) 1 1, .int .i64 0])) w') : Calls Tryd.prog 12 #[.string ⟨#[105, 100, 105, 118]⟩, .slice (some ⟨B, 0, none⟩) 2 c] w fun e w' => RefO w (intsO quoV quoE a b) e w' := by
    rw [he]
    clear he
    rw [Bool.and_eq_true] at hn
    have hNa := refInt_at a
    have hNb := refInt_at b
    rw [hn.1] at hNa
    rw [hn.2] at hNb
    clear hn
    obtain ⟨a0, a1, a2, a3, a4, a5, a6, a7, a8, a9⟩ := ha
    obtain ⟨b0, b1, b2, b3, b4, b5, b6, b7, b8, b9⟩ := hb
    simp only [Nat.zero_add, Nat.reduceAdd] at *
    have hlt := World.block_lt_of_cell? w _ a0
    obtain ⟨ka, xa, ca, na, sa, ra, fa, la⟩ := a
    obtain ⟨kb, xb, cb, nb, sb, rb, fb, lb⟩ := b
    unfold Ob.vl at *
    simp only at *
    go_enter Tryd.func12, Tryd.ntmps12
    go_wp2_with fail
    refine (hNa _).mono ?_; rintro e w1 ⟨rfl, hb1⟩
    have p10 := rule hb1 (w.heap.size) (by simp <;> omega)
    have p11 := rule hb1 (w.heap.size + 1) (by simp <;> omega)
    have HB1 := Lib.hid (bthen (below2 _ _ _ ) hb1)
    have hz1 : w.heap.size + 1 < w1.heap.size := by have := hb1.size; simp at this; omega
    clear hb1
    go_wp2_with fail
    refine (hNb _).mono ?_; rintro e w2 ⟨rfl, hb2⟩
    have p20 := rule hb2 (w.heap.size) (by omega)
    have p21 := rule hb2 (w.heap.size + 1) (by omega)
    have HB2 := Lib.hid (bthen HB1.out hb2)
    have hz2 : w.heap.size + 1 < w2.heap.size := by have := hb2.size; omega
    clear hb2
    go_wp2_with fail
    refine (HI _).mono ?_; rintro e w3 ⟨bq, hbq, rfl, hro⟩
    have HRO := Lib.hid (hro.after HB2.out)
    clear hro
    go_wp2_with fail
    go_ret2
    exact HRO.out
set_option maxHeartbeats 2000000 in
set_option maxRecDepth 100000 in
theorem ref_idiv_er {a b : Ob} {B c : Nat} {w : World} (ha : At10 w B 0 a) (hb : At10 w B 10 b) (hn : (isIntB a && isIntB b) = true) (he : intsO quoV quoE a b = noO 18) (HI : ∀ W, Calls Tryd.prog 26 #[.string ⟨#[105, 100, 105, 118]⟩, .int .i64 a.n, .int .i64 b.n] W fun e w' => RefO W (noO 18) e w') : Calls Tryd.prog 12 #[.string ⟨#[105, 100, 105, 118]⟩, .slice (some ⟨B, 0, none⟩) 2 c] w fun e w' => RefO w (intsO quoV quoE a b) e w' := by
    rw [he]
    clear he
    rw [Bool.and_eq_true] at hn
    have hNa := refInt_at a
    have hNb := refInt_at b
    rw [hn.1] at hNa
    rw [hn.2] at hNb
    clear hn
    obtain ⟨a0, a1, a2, a3, a4, a5, a6, a7, a8, a9⟩ := ha
    obtain ⟨b0, b1, b2, b3, b4, b5, b6, b7, b8, b9⟩ := hb
    simp only [Nat.zero_add, Nat.reduceAdd] at *
    have hlt := World.block_lt_of_cell? w _ a0
    obtain ⟨ka, xa, ca, na, sa, ra, fa, la⟩ := a
    obtain ⟨kb, xb, cb, nb, sb, rb, fb, lb⟩ := b
    unfold Ob.vl at *
    simp only at *
    go_enter Tryd.func12, Tryd.ntmps12
    go_wp2_with fail
    refine (hNa _).mono ?_; rintro e w1 ⟨rfl, hb1⟩
    have p10 := rule hb1 (w.heap.size) (by simp <;> omega)
    have p11 := rule hb1 (w.heap.size + 1) (by simp <;> omega)
    have HB1 := Lib.hid (bthen (below2 _ _ _ ) hb1)
    have hz1 : w.heap.size + 1 < w1.heap.size := by have := hb1.size; simp at this; omega
    clear hb1
    go_wp2_with fail
    refine (hNb _).mono ?_; rintro e w2 ⟨rfl, hb2⟩
    have p20 := rule hb2 (w.heap.size) (by omega)
    have p21 := rule hb2 (w.heap.size + 1) (by omega)
    have HB2 := Lib.hid (bthen HB1.out hb2)
    have hz2 : w.heap.size + 1 < w2.heap.size := by have := hb2.size; omega
    clear hb2
    go_wp2_with fail
    refine (HI _).mono ?_; rintro e w3 hro
    obtain rfl := hro.no (by decide)
    have HRO := Lib.hid (hro.after HB2.out)
    clear hro
    go_wp2_with fail
    go_ret2
    exact HRO.out
theorem ref_idiv {a b : Ob} {B c : Nat} {w : World} (ha : At10 w B 0 a) (hb : At10 w B 10 b) : Calls Tryd.prog 12 #[.string ⟨#[105, 100, 105, 118]⟩, .slice (some ⟨B, 0, none⟩) 2 c] w fun e w' => RefO w (intsO quoV quoE a b) e w' := by
  cases hn : (isIntB a && isIntB b)
  · exact ref_idiv_no ha hb hn
  · have hi := hn
    rw [Bool.and_eq_true] at hi
    obtain ⟨-, x1, x2⟩ := (isInt_iff a).1 hi.1
    obtain ⟨-, y1, y2⟩ := (isInt_iff b).1 hi.2
    have fa := (fits_iff a.n).2 ⟨x1, x2⟩
    have fb := (fits_iff b.n).2 ⟨y1, y2⟩
    have e0 : intsO quoV quoE a b = madeO 1 (quoV a.n b.n) (quoE a.n b.n) := by unfold intsO; rw [if_pos hn]
    by_cases h0 : b.n = 0
    · exact ref_idiv_er ha hb hn (by rw [e0]; unfold quoE quoV; rw [if_pos (.inl h0), if_pos (.inl h0)]; rfl) (fun W => by rw [h0]; exact refInts_nul _ (.inl rfl) a.n W)
    · cases hf : fits (a.n.tdiv b.n)
      · have hx : a.n = -2147483648 ∧ b.n = -1 := by
          have q := tdiv_bd a.n b.n 2147483648 (by omega) (by omega)
          have hq : a.n.tdiv b.n = 2147483648 := by
            have hnf : ¬ (fits (a.n.tdiv b.n) = true) := by rw [hf]; simp
            rw [fits_iff] at hnf; omega
          have e := Int.mul_tdiv_add_tmod a.n b.n
          have r := tmod_bd a.n b.n h0 2147483648 (by omega) (by omega)
          rw [hq] at e
          have r1 := Int.natAbs_tmod a.n b.n
          have r2 := Nat.mod_lt a.n.natAbs (show 0 < b.n.natAbs by omega)
          rw [← r1] at r2
          omega
        exact ref_idiv_er ha hb hn (by rw [e0]; unfold quoE quoV; rw [if_pos (.inr hx), if_pos (.inr hx)]; rfl) (fun W => refInts_idiv_no a.n b.n fa fb h0 hf W)
      · have hx : ¬ (b.n = 0 ∨ (a.n = -2147483648 ∧ b.n = -1)) := by
          rintro (h | ⟨h1, h2⟩)
          · exact h0 h
          · rw [h1, h2] at hf; revert hf; decide
        exact ref_idiv_ok ha hb hn (a.n.tdiv b.n) (by rw [e0]; unfold quoE quoV; rw [if_neg hx, if_neg hx]; rfl) (fun W => refInts_idiv a.n b.n fa fb h0 hf W)
set_option maxHeartbeats 2000000 in
set_option maxRecDepth 100000 in
theorem ref_mod_no {a b : Ob} {B c : Nat} {w : World} (ha : At10 w B 0 a) (hb : At10 w B 10 b) (hn : (isIntB a && isIntB b) = false) : Calls Tryd.prog 12 #[.string ⟨#[109, 111, 100]⟩, .slice (some ⟨B, 0, none⟩) 2 c] w fun e w' => RefO w (intsO remV remE a b) e w' := by
    have e0 : intsO remV remE a b = noO 16 := by unfold intsO; rw [hn]; rfl
    rw [e0]
    clear e0
    have hNa := refInt_at a
    have hNb := refInt_at b
    obtain ⟨a0, a1, a2, a3, a4, a5, a6, a7, a8, a9⟩ := ha
    obtain ⟨b0, b1, b2, b3, b4, b5, b6, b7, b8, b9⟩ := hb
    simp only [Nat.zero_add, Nat.reduceAdd] at *
    have hlt := World.block_lt_of_cell? w _ a0
    cases h1 : isIntB a
    · rw [h1] at hNa
      clear h1 hn hNb
      obtain ⟨ka, xa, ca, na, sa, ra, fa, la⟩ := a
      obtain ⟨kb, xb, cb, nb, sb, rb, fb, lb⟩ := b
      unfold Ob.vl at *
      simp only at *
      go_enter Tryd.func12, Tryd.ntmps12
      go_wp2_with fail
      refine (hNa _).mono ?_; rintro e w1 ⟨rfl, hb1⟩
      have p10 := rule hb1 (w.heap.size) (by simp <;> omega)
      have p11 := rule hb1 (w.heap.size + 1) (by simp <;> omega)
      have HB1 := Lib.hid (bthen (below2 _ _ _ ) hb1)
      have hz1 : w.heap.size + 1 < w1.heap.size := by have := hb1.size; simp at this; omega
      clear hb1
      go_wp2_with fail
      go_ret2
      exact RefO.err (by decide) HB1.out
    · have h2 : isIntB b = false := by rw [h1] at hn; simpa using hn
      rw [h1] at hNa
      rw [h2] at hNb
      clear h1 h2 hn
      obtain ⟨ka, xa, ca, na, sa, ra, fa, la⟩ := a
      obtain ⟨kb, xb, cb, nb, sb, rb, fb, lb⟩ := b
      unfold Ob.vl at *
      simp only at *
      go_enter Tryd.func12, Tryd.ntmps12
      go_wp2_with fail
      refine (hNa _).mono ?_; rintro e w1 ⟨rfl, hb1⟩
      have p10 := rule hb1 (w.heap.size) (by simp <;> omega)
      have p11 := rule hb1 (w.heap.size + 1) (by simp <;> omega)
      have HB1 := Lib.hid (bthen (below2 _ _ _ ) hb1)
      have hz1 : w.heap.size + 1 < w1.heap.size := by have := hb1.size; simp at this; omega
      clear hb1
      go_wp2_with fail
      refine (hNb _).mono ?_; rintro e w2 ⟨rfl, hb2⟩
      have p20 := rule hb2 (w.heap.size) (by omega)
      have p21 := rule hb2 (w.heap.size + 1) (by omega)
      have HB2 := Lib.hid (bthen HB1.out hb2)
      have hz2 : w.heap.size + 1 < w2.heap.size := by have := hb2.size; omega
      clear hb2
      go_wp2_with fail
      go_ret2
      exact RefO.err (by decide) HB2.out
set_option maxHeartbeats 2000000 in
set_option maxRecDepth 100000 in
theorem ref_mod_ok {a b : Ob} {B c : Nat} {w : World} (ha : At10 w B 0 a) (hb : At10 w B 10 b) (hn : (isIntB a && isIntB b) = true) (v : Int) (he : intsO remV remE a b = okO 1 v) (HI : ∀ W, Calls Tryd.prog 26 #[.string ⟨#[109, 111, 100]⟩, .int .i64 a.n, .int .i64 b.n] W fun e w' => ∃ bq, W.heap.size ≤ bq ∧ e = .returned (.tuple #[.slice (some ⟨bq, 0, none⟩) 1 1, .int .i64 0]) ∧ RefO W (okO 1 v) (.returned (.tuple #[.slice (some ⟨bq, 0, none⟩) 1 1, .int .i64 0])) w') : Calls Tryd.prog 12 #[.string ⟨#[109, 111, 100]⟩, .slice (some ⟨B, 0, none⟩) 2 c] w fun e w' => RefO w (intsO remV remE a b) e w' := by
    rw [he]
    clear he
    rw [Bool.and_eq_true] at hn
    have hNa := refInt_at a
    have hNb := refInt_at b
    rw [hn.1] at hNa
    rw [hn.2] at hNb
    clear hn
    obtain ⟨a0, a1, a2, a3, a4, a5, a6, a7, a8, a9⟩ := ha
    obtain ⟨b0, b1, b2, b3, b4, b5, b6, b7, b8, b9⟩ := hb
    simp only [Nat.zero_add, Nat.reduceAdd] at *
    have hlt := World.block_lt_of_cell? w _ a0
    obtain ⟨ka, xa, ca, na, sa, ra, fa, la⟩ := a
    obtain ⟨kb, xb, cb, nb, sb, rb, fb, lb⟩ := b
    unfold Ob.vl at *
    simp only at *
    go_enter Tryd.func12, Tryd.ntmps12
    go_wp2_with fail
    refine (hNa _).mono ?_; rintro e w1 ⟨rfl, hb1⟩
    have p10 := rule hb1 (w.heap.size) (by simp <;> omega)
    have p11 := rule hb1 (w.heap.size + 1) (by simp <;> omega)
    have HB1 := Lib.hid (bthen (below2 _ _ _ ) hb1)
    have hz1 : w.heap.size + 1 < w1.heap.size := by have := hb1.size; simp at this; omega
    clear hb1
    go_wp2_with fail
    refine (hNb _).mono ?_; rintro e w2 ⟨rfl, hb2⟩
    have p20 := rule hb2 (w.heap.size) (by omega)
    have p21 := rule hb2 (w.heap.size + 1) (by omega)
    have HB2 := Lib.hid (bthen HB1.out hb2)
    have hz2 : w.heap.size + 1 < w2.heap.size := by have := hb2.size; omega
    clear hb2
    go_wp2_with fail
    refine (HI _).mono ?_; rintro e w3 ⟨bq, hbq, rfl, hro⟩
    have HRO := Lib.hid (hro.after HB2.out)
    clear hro
    go_wp2_with fail
    go_ret2
    exact HRO.out
set_option maxHeartbeats 2000000 in
set_option maxRecDepth 100000 in
theorem ref_mod_er {a b : Ob} {B c : Nat} {w : World} (ha : At10 w B 0 a) (hb : At10 w B 10 b) (hn : (isIntB a && isIntB b) = true) (he : intsO remV remE a b = noO 18) (HI : ∀ W, Calls Tryd.prog 26 #[.string ⟨#[109, 111, 100]⟩, .int .i64 a.n, .int .i64 b.n] W fun e w' => RefO W (noO 18) e w') : Calls Tryd.prog 12 #[.string ⟨#[109, 111, 100]⟩, .slice (some ⟨B, 0, none⟩) 2 c] w fun e w' => RefO w (intsO remV remE a b) e w' := by
    rw [he]
    clear he
    rw [Bool.and_eq_true] at hn
    have hNa := refInt_at a
    have hNb := refInt_at b
    rw [hn.1] at hNa
    rw [hn.2] at hNb
    clear hn
    obtain ⟨a0, a1, a2, a3, a4, a5, a6, a7, a8, a9⟩ := ha
    obtain ⟨b0, b1, b2, b3, b4, b5, b6, b7, b8, b9⟩ := hb
    simp only [Nat.zero_add, Nat.reduceAdd] at *
    have hlt := World.block_lt_of_cell? w _ a0
    obtain ⟨ka, xa, ca, na, sa, ra, fa, la⟩ := a
    obtain ⟨kb, xb, cb, nb, sb, rb, fb, lb⟩ := b
    unfold Ob.vl at *
    simp only at *
    go_enter Tryd.func12, Tryd.ntmps12
    go_wp2_with fail
    refine (hNa _).mono ?_; rintro e w1 ⟨rfl, hb1⟩
    have p10 := rule hb1 (w.heap.size) (by simp <;> omega)
    have p11 := rule hb1 (w.heap.size + 1) (by simp <;> omega)
    have HB1 := Lib.hid (bthen (below2 _ _ _ ) hb1)
    have hz1 : w.heap.size + 1 < w1.heap.size := by have := hb1.size; simp at this; omega
    clear hb1
    go_wp2_with fail
    refine (hNb _).mono ?_; rintro e w2 ⟨rfl, hb2⟩
    have p20 := rule hb2 (w.heap.size) (by omega)
    have p21 := rule hb2 (w.heap.size + 1) (by omega)
    have HB2 := Lib.hid (bthen HB1.out hb2)
    have hz2 : w.heap.size + 1 < w2.heap.size := by have := hb2.size; omega
    clear hb2
    go_wp2_with fail
    refine (HI _).mono ?_; rintro e w3 hro
    obtain rfl := hro.no (by decide)
    have HRO := Lib.hid (hro.after HB2.out)
    clear hro
    go_wp2_with fail
    go_ret2
    exact HRO.out
theorem ref_mod {a b : Ob} {B c : Nat} {w : World} (ha : At10 w B 0 a) (hb : At10 w B 10 b) : Calls Tryd.prog 12 #[.string ⟨#[109, 111, 100]⟩, .slice (some ⟨B, 0, none⟩) 2 c] w fun e w' => RefO w (intsO remV remE a b) e w' := by
  cases hn : (isIntB a && isIntB b)
  · exact ref_mod_no ha hb hn
  · have hi := hn
    rw [Bool.and_eq_true] at hi
    obtain ⟨-, x1, x2⟩ := (isInt_iff a).1 hi.1
    obtain ⟨-, y1, y2⟩ := (isInt_iff b).1 hi.2
    have fa := (fits_iff a.n).2 ⟨x1, x2⟩
    have fb := (fits_iff b.n).2 ⟨y1, y2⟩
    have e0 : intsO remV remE a b = madeO 1 (remV a.n b.n) (remE a.n b.n) := by unfold intsO; rw [if_pos hn]
    by_cases h0 : b.n = 0
    · exact ref_mod_er ha hb hn (by rw [e0]; unfold remE remV; rw [if_pos h0, if_pos h0]; rfl) (fun W => by rw [h0]; exact refInts_nul _ (.inr rfl) a.n W)
    · exact ref_mod_ok ha hb hn (a.n.tmod b.n) (by rw [e0]; unfold remE remV; rw [if_neg h0, if_neg h0]; rfl) (fun W => refInts_mod a.n b.n fa fb h0 W)
set_option maxHeartbeats 2000000 in
set_option maxRecDepth 100000 in
theorem ref_bitshift_no {a b : Ob} {B c : Nat} {w : World} (ha : At10 w B 0 a) (hb : At10 w B 10 b) (hn : (isIntB a && isIntB b) = false) : Calls Tryd.prog 12 #[.string ⟨#[98, 105, 116, 115, 104, 105, 102, 116]⟩, .slice (some ⟨B, 0, none⟩) 2 c] w fun e w' => RefO w (intsO shiV (fun _ _ => 0) a b) e w' := by
    have e0 : intsO shiV (fun _ _ => 0) a b = noO 16 := by unfold intsO; rw [hn]; rfl
    rw [e0]
    clear e0
    have hNa := refInt_at a
    have hNb := refInt_at b
    obtain ⟨a0, a1, a2, a3, a4, a5, a6, a7, a8, a9⟩ := ha
    obtain ⟨b0, b1, b2, b3, b4, b5, b6, b7, b8, b9⟩ := hb
    simp only [Nat.zero_add, Nat.reduceAdd] at *
    have hlt := World.block_lt_of_cell? w _ a0
    cases h1 : isIntB a
    · rw [h1] at hNa
      clear h1 hn hNb
      obtain ⟨ka, xa, ca, na, sa, ra, fa, la⟩ := a
      obtain ⟨kb, xb, cb, nb, sb, rb, fb, lb⟩ := b
      unfold Ob.vl at *
      simp only at *
      go_enter Tryd.func12, Tryd.ntmps12
      go_wp2_with fail
      refine (hNa _).mono ?_; rintro e w1 ⟨rfl, hb1⟩
      have p10 := rule hb1 (w.heap.size) (by simp <;> omega)
      have p11 := rule hb1 (w.heap.size + 1) (by simp <;> omega)
      have HB1 := Lib.hid (bthen (below2 _ _ _ ) hb1)
      have hz1 : w.heap.size + 1 < w1.heap.size := by have := hb1.size; simp at this; omega
      clear hb1
      go_wp2_with fail
      go_ret2
      exact RefO.err (by decide) HB1.out
    · have h2 : isIntB b = false := by rw [h1] at hn; simpa using hn
      rw [h1] at hNa
      rw [h2] at hNb
      clear h1 h2 hn
      obtain ⟨ka, xa, ca, na, sa, ra, fa, la⟩ := a
      obtain ⟨kb, xb, cb, nb, sb, rb, fb, lb⟩ := b
      unfold Ob.vl at *
      simp only at *
      go_enter Tryd.func12, Tryd.ntmps12
      go_wp2_with fail
      refine (hNa _).mono ?_; rintro e w1 ⟨rfl, hb1⟩
      have p10 := rule hb1 (w.heap.size) (by simp <;> omega)
      have p11 := rule hb1 (w.heap.size + 1) (by simp <;> omega)
      have HB1 := Lib.hid (bthen (below2 _ _ _ ) hb1)
      have hz1 : w.heap.size + 1 < w1.heap.size := by have := hb1.size; simp at this; omega
      clear hb1
      go_wp2_with fail
      refine (hNb _).mono ?_; rintro e w2 ⟨rfl, hb2⟩
      have p20 := rule hb2 (w.heap.size) (by omega)
      have p21 := rule hb2 (w.heap.size + 1) (by omega)
      have HB2 := Lib.hid (bthen HB1.out hb2)
      have hz2 : w.heap.size + 1 < w2.heap.size := by have := hb2.size; omega
      clear hb2
      go_wp2_with fail
      go_ret2
      exact RefO.err (by decide) HB2.out
set_option maxHeartbeats 2000000 in
set_option maxRecDepth 100000 in
theorem ref_bitshift_ok {a b : Ob} {B c : Nat} {w : World} (ha : At10 w B 0 a) (hb : At10 w B 10 b) (hn : (isIntB a && isIntB b) = true) (v : Int) (he : intsO shiV (fun _ _ => 0) a b = okO 1 v) (HI : ∀ W, Calls Tryd.prog 26 #[.string ⟨#[98, 105, 116, 115, 104, 105, 102, 116]⟩, .int .i64 a.n, .int .i64 b.n] W fun e w' => ∃ bq, W.heap.size ≤ bq ∧ e = .returned (.tuple #[.slice (some ⟨bq, 0, none⟩) 1 1, .int .i64 0]) ∧ RefO W (okO 1 v) (.returned (.tuple #[.slice (some ⟨bq, 0, none⟩) 1 1, .int .i64 0])) w') : Calls Tryd.prog 12 #[.string ⟨#[98, 105, 116, 115, 104, 105, 102, 116]⟩, .slice (some ⟨B, 0, none⟩) 2 c] w fun e w' => RefO w (intsO shiV (fun _ _ => 0) a b) e w' := by
    rw [he]
    clear he
    rw [Bool.and_eq_true] at hn
    have hNa := refInt_at a
    have hNb := refInt_at b
    rw [hn.1] at hNa
    rw [hn.2] at hNb
    clear hn
    obtain ⟨a0, a1, a2, a3, a4, a5, a6, a7, a8, a9⟩ := ha
    obtain ⟨b0, b1, b2, b3, b4, b5, b6, b7, b8, b9⟩ := hb
    simp only [Nat.zero_add, Nat.reduceAdd] at *
    have hlt := World.block_lt_of_cell? w _ a0
    obtain ⟨ka, xa, ca, na, sa, ra, fa, la⟩ := a
    obtain ⟨kb, xb, cb, nb, sb, rb, fb, lb⟩ := b
    unfold Ob.vl at *
    simp only at *
    go_enter Tryd.func12, Tryd.ntmps12
    go_wp2_with fail
    refine (hNa _).mono ?_; rintro e w1 ⟨rfl, hb1⟩
    have p10 := rule hb1 (w.heap.size) (by simp <;> omega)
    have p11 := rule hb1 (w.heap.size + 1) (by simp <;> omega)
    have HB1 := Lib.hid (bthen (below2 _ _ _ ) hb1)
    have hz1 : w.heap.size + 1 < w1.heap.size := by have := hb1.size; simp at this; omega
    clear hb1
    go_wp2_with fail
    refine (hNb _).mono ?_; rintro e w2 ⟨rfl, hb2⟩
    have p20 := rule hb2 (w.heap.size) (by omega)
    have p21 := rule hb2 (w.heap.size + 1) (by omega)
    have HB2 := Lib.hid (bthen HB1.out hb2)
    have hz2 : w.heap.size + 1 < w2.heap.size := by have := hb2.size; omega
    clear hb2
    go_wp2_with fail
    refine (HI _).mono ?_; rintro e w3 ⟨bq, hbq, rfl, hro⟩
    have HRO := Lib.hid (hro.after HB2.out)
    clear hro
    go_wp2_with fail
    go_ret2
    exact HRO.out
theorem ref_bitshift {a b : Ob} {B c : Nat} {w : World} (ha : At10 w B 0 a) (hb : At10 w B 10 b) : Calls Tryd.prog 12 #[.string ⟨#[98, 105, 116, 115, 104, 105, 102, 116]⟩, .slice (some ⟨B, 0, none⟩) 2 c] w fun e w' => RefO w (intsO shiV (fun _ _ => 0) a b) e w' := by
  cases hn : (isIntB a && isIntB b)
  · exact ref_bitshift_no ha hb hn
  · have hi := hn
    rw [Bool.and_eq_true] at hi
    obtain ⟨-, x1, x2⟩ := (isInt_iff a).1 hi.1
    obtain ⟨-, y1, y2⟩ := (isInt_iff b).1 hi.2
    have fa := (fits_iff a.n).2 ⟨x1, x2⟩
    have fb := (fits_iff b.n).2 ⟨y1, y2⟩
    have e0 : intsO shiV (fun _ _ => 0) a b = madeO 1 (shiV a.n b.n) ((fun _ _ => 0) a.n b.n) := by unfold intsO; rw [if_pos hn]
    refine ref_bitshift_ok ha hb hn (shiV a.n b.n) (by rw [e0]; rfl) (fun W => ?_)
    by_cases hfar : 31 < b.n ∨ b.n < -31
    · rw [far_shift hfar]; exact refInts_far a.n b.n x1 x2 hfar W
    · rcases Int.lt_or_le b.n 0 with hl | hl
      · obtain ⟨J, hJ⟩ : ∃ J : Nat, b.n = -(J : Int) := ⟨(-b.n).toNat, by omega⟩
        rw [hJ]
        unfold shiV
        rw [if_pos (by omega), show min (- -(J : Int)).toNat 32 = J by omega]
        rcases Int.lt_or_le a.n 0 with hs | hs
        · rw [show a.n % 4294967296 = a.n + 4294967296 by omega]
          exact refInts_shr_neg a.n J hs x1 (by omega) (by omega) W
        · rw [show a.n % 4294967296 = a.n by omega]
          exact refInts_shr_pos a.n J hs x2 (by omega) (by omega) W
      · obtain ⟨J, hJ⟩ : ∃ J : Nat, b.n = (J : Int) := ⟨b.n.toNat, by omega⟩
        rw [hJ]
        unfold shiV
        rw [if_neg (by omega), show min ((J : Int)).toNat 32 = J by omega]
        rcases Int.lt_or_le a.n 0 with hs | hs
        · rw [show a.n % 4294967296 = a.n + 4294967296 by omega]
          exact refInts_shl_neg a.n J hs x1 (by omega) W
        · rw [show a.n % 4294967296 = a.n by omega]
          exact refInts_shl_pos a.n J hs x2 (by omega) W
end Ari
end Go.Proofs.YtgbpldfcahajeaaDoor
namespace Go.Proofs.YtgbpldfcahajeaaDoor
open Go.RowKit
open Fx
namespace Ari
set_option maxHeartbeats 2000000 in
set_option maxRecDepth 100000 in
theorem ref_and_no {a b : Ob} {B c : Nat} {w : World} (ha : At10 w B 0 a) (hb : At10 w B 10 b) (ht : (isTruB a && isTruB b) = false) (hn : (isIntB a && isIntB b) = false) : Calls Tryd.prog 12 #[.string ⟨#[97, 110, 100]⟩, .slice (some ⟨B, 0, none⟩) 2 c] w fun e w' => RefO w (bitO (fun x y => bits .and .i64 x y) a b) e w' := by
    have e0 : bitO (fun x y => bits .and .i64 x y) a b = noO 16 := by unfold bitO; rw [if_neg (by rw [ht, hn]; simp)]
    rw [e0]
    clear e0
    have hTa := refTru_at a
    have hTb := refTru_at b
    have hNa := refInt_at a
    have hNb := refInt_at b
    obtain ⟨a0, a1, a2, a3, a4, a5, a6, a7, a8, a9⟩ := ha
    obtain ⟨b0, b1, b2, b3, b4, b5, b6, b7, b8, b9⟩ := hb
    simp only [Nat.zero_add, Nat.reduceAdd] at *
    have hlt := World.block_lt_of_cell? w _ a0
    cases t1 : isTruB a <;> cases h1 : isIntB a
    · rw [t1] at hTa ht
      rw [h1] at hNa hn
      clear t1 h1 ht hn
      obtain ⟨ka, xa, ca, na, sa, ra, fa, la⟩ := a
      obtain ⟨kb, xb, cb, nb, sb, rb, fb, lb⟩ := b
      unfold Ob.vl at *
      simp only at *
      go_enter Tryd.func12, Tryd.ntmps12
      go_wp2_with fail
      refine (hTa _).mono ?_; rintro e w1 ⟨rfl, hb1⟩
      have p10 := rule hb1 (w.heap.size) (by simp <;> omega)
      have p11 := rule hb1 (w.heap.size + 1) (by simp <;> omega)
      have HB1 := Lib.hid (bthen (below2 _ _ _ ) hb1)
      have hz1 : w.heap.size + 1 < w1.heap.size := by have := hb1.size; simp at this; omega
      clear hb1
      go_wp2_with fail
      refine (hNa _).mono ?_; rintro e w2 ⟨rfl, hb2⟩
      have p20 := rule hb2 (w.heap.size) (by omega)
      have p21 := rule hb2 (w.heap.size + 1) (by omega)
      have HB2 := Lib.hid (bthen HB1.out hb2)
      have hz2 : w.heap.size + 1 < w2.heap.size := by have := hb2.size; omega
      clear hb2
      go_wp2_with fail
      go_ret2
      exact RefO.err (by decide) HB2.out
    · rw [t1] at hTa ht
      rw [h1] at hNa hn
      have h2 : isIntB b = false := by simpa using hn
      rw [h2] at hNb
      clear h2
      clear t1 h1 ht hn
      obtain ⟨ka, xa, ca, na, sa, ra, fa, la⟩ := a
      obtain ⟨kb, xb, cb, nb, sb, rb, fb, lb⟩ := b
      unfold Ob.vl at *
      simp only at *
      go_enter Tryd.func12, Tryd.ntmps12
      go_wp2_with fail
      refine (hTa _).mono ?_; rintro e w1 ⟨rfl, hb1⟩
      have p10 := rule hb1 (w.heap.size) (by simp <;> omega)
      have p11 := rule hb1 (w.heap.size + 1) (by simp <;> omega)
      have HB1 := Lib.hid (bthen (below2 _ _ _ ) hb1)
      have hz1 : w.heap.size + 1 < w1.heap.size := by have := hb1.size; simp at this; omega
      clear hb1
      go_wp2_with fail
      refine (hNa _).mono ?_; rintro e w2 ⟨rfl, hb2⟩
      have p20 := rule hb2 (w.heap.size) (by omega)
      have p21 := rule hb2 (w.heap.size + 1) (by omega)
      have HB2 := Lib.hid (bthen HB1.out hb2)
      have hz2 : w.heap.size + 1 < w2.heap.size := by have := hb2.size; omega
      clear hb2
      go_wp2_with fail
      refine (hNb _).mono ?_; rintro e w3 ⟨rfl, hb3⟩
      have p30 := rule hb3 (w.heap.size) (by omega)
      have p31 := rule hb3 (w.heap.size + 1) (by omega)
      have HB3 := Lib.hid (bthen HB2.out hb3)
      have hz3 : w.heap.size + 1 < w3.heap.size := by have := hb3.size; omega
      clear hb3
      go_wp2_with fail
      go_ret2
      exact RefO.err (by decide) HB3.out
    · rw [t1] at hTa ht
      rw [h1] at hNa hn
      have t2 : isTruB b = false := by simpa using ht
      rw [t2] at hTb
      clear t2
      clear t1 h1 ht hn
      obtain ⟨ka, xa, ca, na, sa, ra, fa, la⟩ := a
      obtain ⟨kb, xb, cb, nb, sb, rb, fb, lb⟩ := b
      unfold Ob.vl at *
      simp only at *
      go_enter Tryd.func12, Tryd.ntmps12
      go_wp2_with fail
      refine (hTa _).mono ?_; rintro e w1 ⟨rfl, hb1⟩
      have p10 := rule hb1 (w.heap.size) (by simp <;> omega)
      have p11 := rule hb1 (w.heap.size + 1) (by simp <;> omega)
      have HB1 := Lib.hid (bthen (below2 _ _ _ ) hb1)
      have hz1 : w.heap.size + 1 < w1.heap.size := by have := hb1.size; simp at this; omega
      clear hb1
      go_wp2_with fail
      refine (hTb _).mono ?_; rintro e w2 ⟨rfl, hb2⟩
      have p20 := rule hb2 (w.heap.size) (by omega)
      have p21 := rule hb2 (w.heap.size + 1) (by omega)
      have HB2 := Lib.hid (bthen HB1.out hb2)
      have hz2 : w.heap.size + 1 < w2.heap.size := by have := hb2.size; omega
      clear hb2
      go_wp2_with fail
      refine (hNa _).mono ?_; rintro e w3 ⟨rfl, hb3⟩
      have p30 := rule hb3 (w.heap.size) (by omega)
      have p31 := rule hb3 (w.heap.size + 1) (by omega)
      have HB3 := Lib.hid (bthen HB2.out hb3)
      have hz3 : w.heap.size + 1 < w3.heap.size := by have := hb3.size; omega
      clear hb3
      go_wp2_with fail
      go_ret2
      exact RefO.err (by decide) HB3.out
    · rw [t1] at hTa ht
      rw [h1] at hNa hn
      have t2 : isTruB b = false := by simpa using ht
      rw [t2] at hTb
      clear t2
      have h2 : isIntB b = false := by simpa using hn
      rw [h2] at hNb
      clear h2
      clear t1 h1 ht hn
      obtain ⟨ka, xa, ca, na, sa, ra, fa, la⟩ := a
      obtain ⟨kb, xb, cb, nb, sb, rb, fb, lb⟩ := b
      unfold Ob.vl at *
      simp only at *
      go_enter Tryd.func12, Tryd.ntmps12
      go_wp2_with fail
      refine (hTa _).mono ?_; rintro e w1 ⟨rfl, hb1⟩
      have p10 := rule hb1 (w.heap.size) (by simp <;> omega)
      have p11 := rule hb1 (w.heap.size + 1) (by simp <;> omega)
      have HB1 := Lib.hid (bthen (below2 _ _ _ ) hb1)
      have hz1 : w.heap.size + 1 < w1.heap.size := by have := hb1.size; simp at this; omega
      clear hb1
      go_wp2_with fail
      refine (hTb _).mono ?_; rintro e w2 ⟨rfl, hb2⟩
      have p20 := rule hb2 (w.heap.size) (by omega)
      have p21 := rule hb2 (w.heap.size + 1) (by omega)
      have HB2 := Lib.hid (bthen HB1.out hb2)
      have hz2 : w.heap.size + 1 < w2.heap.size := by have := hb2.size; omega
      clear hb2
      go_wp2_with fail
      refine (hNa _).mono ?_; rintro e w3 ⟨rfl, hb3⟩
      have p30 := rule hb3 (w.heap.size) (by omega)
      have p31 := rule hb3 (w.heap.size + 1) (by omega)
      have HB3 := Lib.hid (bthen HB2.out hb3)
      have hz3 : w.heap.size + 1 < w3.heap.size := by have := hb3.size; omega
      clear hb3
      go_wp2_with fail
      refine (hNb _).mono ?_; rintro e w4 ⟨rfl, hb4⟩
      have p40 := rule hb4 (w.heap.size) (by omega)
      have p41 := rule hb4 (w.heap.size + 1) (by omega)
      have HB4 := Lib.hid (bthen HB3.out hb4)
      have hz4 : w.heap.size + 1 < w4.heap.size := by have := hb4.size; omega
      clear hb4
      go_wp2_with fail
      go_ret2
      exact RefO.err (by decide) HB4.out
set_option maxHeartbeats 2000000 in
set_option maxRecDepth 100000 in
theorem ref_and_int {a b : Ob} {B c : Nat} {w : World} (ha : At10 w B 0 a) (hb : At10 w B 10 b) (hn : (isIntB a && isIntB b) = true) : Calls Tryd.prog 12 #[.string ⟨#[97, 110, 100]⟩, .slice (some ⟨B, 0, none⟩) 2 c] w fun e w' => RefO w (bitO (fun x y => bits .and .i64 x y) a b) e w' := by
    rw [Bool.and_eq_true] at hn
    obtain ⟨k1, x1, x2⟩ := (isInt_iff a).1 hn.1
    obtain ⟨-, y1, y2⟩ := (isInt_iff b).1 hn.2
    have fa := (fits_iff a.n).2 ⟨x1, x2⟩
    have fb := (fits_iff b.n).2 ⟨y1, y2⟩
    have e0 : bitO (fun x y => bits .and .i64 x y) a b = okO 1 (bits .and .i64 a.n b.n) := by unfold bitO; rw [if_pos (.inr (by rw [hn.1, hn.2]; rfl)), k1]
    rw [e0]
    clear e0
    have hTa := refTru_at a
    have hTb := refTru_at b
    have hNa := refInt_at a
    have hNb := refInt_at b
    rw [hn.1] at hNa
    rw [hn.2] at hNb
    have t1 : isTruB a = false := by
      cases h : isTruB a
      · rfl
      · have := ((isTru_iff a).1 h).1; omega
    rw [t1] at hTa
    have HBw := Lib.hid (fun W => refBitw_and a.n b.n fa fb W)
    generalize bits .and .i64 a.n b.n = v at *
    have HW := Lib.hid (fun W => refWhole_at v W)
    have HO := Lib.hid (fun W => refOne_at 1 v W)
    clear t1 hn k1 fa fb hTb
    obtain ⟨a0, a1, a2, a3, a4, a5, a6, a7, a8, a9⟩ := ha
    obtain ⟨b0, b1, b2, b3, b4, b5, b6, b7, b8, b9⟩ := hb
    simp only [Nat.zero_add, Nat.reduceAdd] at *
    have hlt := World.block_lt_of_cell? w _ a0
    obtain ⟨ka, xa, ca, na, sa, ra, fa, la⟩ := a
    obtain ⟨kb, xb, cb, nb, sb, rb, fb, lb⟩ := b
    unfold mk Ob.vl at *
    simp only at *
    go_enter Tryd.func12, Tryd.ntmps12
    go_wp2_with fail
    refine (hTa _).mono ?_; rintro e w1 ⟨rfl, hb1⟩
    have p10 := rule hb1 (w.heap.size) (by simp <;> omega)
    have p11 := rule hb1 (w.heap.size + 1) (by simp <;> omega)
    have HB1 := Lib.hid (bthen (below2 _ _ _ ) hb1)
    have hz1 : w.heap.size + 1 < w1.heap.size := by have := hb1.size; simp at this; omega
    clear hb1
    go_wp2_with fail
    refine (hNa _).mono ?_; rintro e w2 ⟨rfl, hb2⟩
    have p20 := rule hb2 (w.heap.size) (by omega)
    have p21 := rule hb2 (w.heap.size + 1) (by omega)
    have HB2 := Lib.hid (bthen HB1.out hb2)
    have hz2 : w.heap.size + 1 < w2.heap.size := by have := hb2.size; omega
    clear hb2
    go_wp2_with fail
    refine (hNb _).mono ?_; rintro e w3 ⟨rfl, hb3⟩
    have p30 := rule hb3 (w.heap.size) (by omega)
    have p31 := rule hb3 (w.heap.size + 1) (by omega)
    have HB3 := Lib.hid (bthen HB2.out hb3)
    have hz3 : w.heap.size + 1 < w3.heap.size := by have := hb3.size; omega
    clear hb3
    go_wp2_with fail
    refine (HBw.out _).mono ?_; rintro e w4 ⟨rfl, rfl⟩
    go_wp2_with fail
    refine (HW.out _).mono ?_; rintro e w4 ⟨rfl, hb4⟩
    have HB4 := Lib.hid (bthen HB3.out hb4)
    clear hb4
    go_wp2_with fail
    refine (HO.out _).mono ?_; rintro e w5 ⟨bq, hbq, rfl, hro⟩
    have HRO := Lib.hid (hro.after HB4.out)
    clear hro
    go_wp2_with fail
    go_ret2
    exact HRO.out
set_option maxHeartbeats 4000000 in
set_option maxRecDepth 100000 in
theorem ref_and_tru {a b : Ob} {B c : Nat} {w : World} (ha : At10 w B 0 a) (hb : At10 w B 10 b) (ht : (isTruB a && isTruB b) = true) : Calls Tryd.prog 12 #[.string ⟨#[97, 110, 100]⟩, .slice (some ⟨B, 0, none⟩) 2 c] w fun e w' => RefO w (bitO (fun x y => bits .and .i64 x y) a b) e w' := by
    rw [Bool.and_eq_true] at ht
    obtain ⟨k1, x1⟩ := (isTru_iff a).1 ht.1
    obtain ⟨-, y1⟩ := (isTru_iff b).1 ht.2
    have e0 : bitO (fun x y => bits .and .i64 x y) a b = okO 3 (bits .and .i64 a.n b.n) := by unfold bitO; rw [if_pos (.inl (by rw [ht.1, ht.2]; rfl)), k1]
    rw [e0]
    clear e0
    have hTa := refTru_at a
    have hTb := refTru_at b
    rw [ht.1] at hTa
    rw [ht.2] at hTb
    clear k1 ht
    obtain ⟨a0, a1, a2, a3, a4, a5, a6, a7, a8, a9⟩ := ha
    obtain ⟨b0, b1, b2, b3, b4, b5, b6, b7, b8, b9⟩ := hb
    simp only [Nat.zero_add, Nat.reduceAdd] at *
    have hlt := World.block_lt_of_cell? w _ a0
    obtain ⟨ka, xa, ca, na, sa, ra, fa, la⟩ := a
    obtain ⟨kb, xb, cb, nb, sb, rb, fb, lb⟩ := b
    simp only at *
    rcases x1 with rfl | rfl <;> rcases y1 with rfl | rfl
    · rw [show bits .and .i64 0 0 = 0 by decide]
      have HL : (∀ W, Calls Tryd.prog 24 #[.string ⟨#[97, 110, 100]⟩, .bool false, .bool false] W fun e w' => e = .returned (.bool false) ∧ W = w') := fun W => refLogic_and false false W
      have HT : ∀ W, Calls Tryd.prog 20 #[.bool false] W fun e w' => e = .returned (mk 3 0).vl ∧ Below W.heap.size W w' := fun W => refTruth_at false W
      have HO := fun W => refOne_at 3 0 W
      unfold mk Ob.vl at *
      simp only at *
      go_enter Tryd.func12, Tryd.ntmps12
      go_wp2_with fail
      refine (hTa _).mono ?_; rintro e w1 ⟨rfl, hb1⟩
      have p10 := rule hb1 (w.heap.size) (by simp <;> omega)
      have p11 := rule hb1 (w.heap.size + 1) (by simp <;> omega)
      have HB1 := Lib.hid (bthen (below2 _ _ _ ) hb1)
      have hz1 : w.heap.size + 1 < w1.heap.size := by have := hb1.size; simp at this; omega
      clear hb1
      go_wp2_with fail
      refine (hTb _).mono ?_; rintro e w2 ⟨rfl, hb2⟩
      have p20 := rule hb2 (w.heap.size) (by omega)
      have p21 := rule hb2 (w.heap.size + 1) (by omega)
      have HB2 := Lib.hid (bthen HB1.out hb2)
      have hz2 : w.heap.size + 1 < w2.heap.size := by have := hb2.size; omega
      clear hb2
      go_wp2_with fail
      refine (HL _).mono ?_; rintro e w3 ⟨rfl, rfl⟩
      go_wp2_with fail
      refine (HT _).mono ?_; rintro e w3 ⟨rfl, hb3⟩
      have HB3 := Lib.hid (bthen HB2.out hb3)
      clear hb3
      go_wp2_with fail
      refine (HO _).mono ?_; rintro e w4 ⟨bq, hbq, rfl, hro⟩
      have HRO := Lib.hid (hro.after HB3.out)
      clear hro
      go_wp2_with fail
      go_ret2
      exact HRO.out
    · rw [show bits .and .i64 0 1 = 0 by decide]
      have HL : (∀ W, Calls Tryd.prog 24 #[.string ⟨#[97, 110, 100]⟩, .bool false, .bool true] W fun e w' => e = .returned (.bool false) ∧ W = w') := fun W => refLogic_and false true W
      have HT : ∀ W, Calls Tryd.prog 20 #[.bool false] W fun e w' => e = .returned (mk 3 0).vl ∧ Below W.heap.size W w' := fun W => refTruth_at false W
      have HO := fun W => refOne_at 3 0 W
      unfold mk Ob.vl at *
      simp only at *
      go_enter Tryd.func12, Tryd.ntmps12
      go_wp2_with fail
      refine (hTa _).mono ?_; rintro e w1 ⟨rfl, hb1⟩
      have p10 := rule hb1 (w.heap.size) (by simp <;> omega)
      have p11 := rule hb1 (w.heap.size + 1) (by simp <;> omega)
      have HB1 := Lib.hid (bthen (below2 _ _ _ ) hb1)
      have hz1 : w.heap.size + 1 < w1.heap.size := by have := hb1.size; simp at this; omega
      clear hb1
      go_wp2_with fail
      refine (hTb _).mono ?_; rintro e w2 ⟨rfl, hb2⟩
      have p20 := rule hb2 (w.heap.size) (by omega)
      have p21 := rule hb2 (w.heap.size + 1) (by omega)
      have HB2 := Lib.hid (bthen HB1.out hb2)
      have hz2 : w.heap.size + 1 < w2.heap.size := by have := hb2.size; omega
      clear hb2
      go_wp2_with fail
      refine (HL _).mono ?_; rintro e w3 ⟨rfl, rfl⟩
      go_wp2_with fail
      refine (HT _).mono ?_; rintro e w3 ⟨rfl, hb3⟩
      have HB3 := Lib.hid (bthen HB2.out hb3)
      clear hb3
      go_wp2_with fail
      refine (HO _).mono ?_; rintro e w4 ⟨bq, hbq, rfl, hro⟩
      have HRO := Lib.hid (hro.after HB3.out)
      clear hro
      go_wp2_with fail
      go_ret2
      exact HRO.out
    · rw [show bits .and .i64 1 0 = 0 by decide]
      have HL : (∀ W, Calls Tryd.prog 24 #[.string ⟨#[97, 110, 100]⟩, .bool true, .bool false] W fun e w' => e = .returned (.bool false) ∧ W = w') := fun W => refLogic_and true false W
      have HT : ∀ W, Calls Tryd.prog 20 #[.bool false] W fun e w' => e = .returned (mk 3 0).vl ∧ Below W.heap.size W w' := fun W => refTruth_at false W
      have HO := fun W => refOne_at 3 0 W
      unfold mk Ob.vl at *
      simp only at *
      go_enter Tryd.func12, Tryd.ntmps12
      go_wp2_with fail
      refine (hTa _).mono ?_; rintro e w1 ⟨rfl, hb1⟩
      have p10 := rule hb1 (w.heap.size) (by simp <;> omega)
      have p11 := rule hb1 (w.heap.size + 1) (by simp <;> omega)
      have HB1 := Lib.hid (bthen (below2 _ _ _ ) hb1)
      have hz1 : w.heap.size + 1 < w1.heap.size := by have := hb1.size; simp at this; omega
      clear hb1
      go_wp2_with fail
      refine (hTb _).mono ?_; rintro e w2 ⟨rfl, hb2⟩
      have p20 := rule hb2 (w.heap.size) (by omega)
      have p21 := rule hb2 (w.heap.size + 1) (by omega)
      have HB2 := Lib.hid (bthen HB1.out hb2)
      have hz2 : w.heap.size + 1 < w2.heap.size := by have := hb2.size; omega
      clear hb2
      go_wp2_with fail
      refine (HL _).mono ?_; rintro e w3 ⟨rfl, rfl⟩
      go_wp2_with fail
      refine (HT _).mono ?_; rintro e w3 ⟨rfl, hb3⟩
      have HB3 := Lib.hid (bthen HB2.out hb3)
      clear hb3
      go_wp2_with fail
      refine (HO _).mono ?_; rintro e w4 ⟨bq, hbq, rfl, hro⟩
      have HRO := Lib.hid (hro.after HB3.out)
      clear hro
      go_wp2_with fail
      go_ret2
      exact HRO.out
    · rw [show bits .and .i64 1 1 = 1 by decide]
      have HL : (∀ W, Calls Tryd.prog 24 #[.string ⟨#[97, 110, 100]⟩, .bool true, .bool true] W fun e w' => e = .returned (.bool true) ∧ W = w') := fun W => refLogic_and true true W
      have HT : ∀ W, Calls Tryd.prog 20 #[.bool true] W fun e w' => e = .returned (mk 3 1).vl ∧ Below W.heap.size W w' := fun W => refTruth_at true W
      have HO := fun W => refOne_at 3 1 W
      unfold mk Ob.vl at *
      simp only at *
      go_enter Tryd.func12, Tryd.ntmps12
      go_wp2_with fail
      refine (hTa _).mono ?_; rintro e w1 ⟨rfl, hb1⟩
      have p10 := rule hb1 (w.heap.size) (by simp <;> omega)
      have p11 := rule hb1 (w.heap.size + 1) (by simp <;> omega)
      have HB1 := Lib.hid (bthen (below2 _ _ _ ) hb1)
      have hz1 : w.heap.size + 1 < w1.heap.size := by have := hb1.size; simp at this; omega
      clear hb1
      go_wp2_with fail
      refine (hTb _).mono ?_; rintro e w2 ⟨rfl, hb2⟩
      have p20 := rule hb2 (w.heap.size) (by omega)
      have p21 := rule hb2 (w.heap.size + 1) (by omega)
      have HB2 := Lib.hid (bthen HB1.out hb2)
      have hz2 : w.heap.size + 1 < w2.heap.size := by have := hb2.size; omega
      clear hb2
      go_wp2_with fail
      refine (HL _).mono ?_; rintro e w3 ⟨rfl, rfl⟩
      go_wp2_with fail
      refine (HT _).mono ?_; rintro e w3 ⟨rfl, hb3⟩
      have HB3 := Lib.hid (bthen HB2.out hb3)
      clear hb3
      go_wp2_with fail
      refine (HO _).mono ?_; rintro e w4 ⟨bq, hbq, rfl, hro⟩
      have HRO := Lib.hid (hro.after HB3.out)
      clear hro
      go_wp2_with fail
      go_ret2
      exact HRO.out
theorem ref_and {a b : Ob} {B c : Nat} {w : World} (ha : At10 w B 0 a) (hb : At10 w B 10 b) : Calls Tryd.prog 12 #[.string ⟨#[97, 110, 100]⟩, .slice (some ⟨B, 0, none⟩) 2 c] w fun e w' => RefO w (bitO (fun x y => bits .and .i64 x y) a b) e w' := by
  cases ht : (isTruB a && isTruB b)
  · cases hn : (isIntB a && isIntB b)
    · exact ref_and_no ha hb ht hn
    · exact ref_and_int ha hb hn
  · exact ref_and_tru ha hb ht
set_option maxHeartbeats 2000000 in
set_option maxRecDepth 100000 in
theorem ref_or_no {a b : Ob} {B c : Nat} {w : World} (ha : At10 w B 0 a) (hb : At10 w B 10 b) (ht : (isTruB a && isTruB b) = false) (hn : (isIntB a && isIntB b) = false) : Calls Tryd.prog 12 #[.string ⟨#[111, 114]⟩, .slice (some ⟨B, 0, none⟩) 2 c] w fun e w' => RefO w (bitO (fun x y => bits .or .i64 x y) a b) e w' := by
    have e0 : bitO (fun x y => bits .or .i64 x y) a b = noO 16 := by unfold bitO; rw [if_neg (by rw [ht, hn]; simp)]
    rw [e0]
    clear e0
    have hTa := refTru_at a
    have hTb := refTru_at b
    have hNa := refInt_at a
    have hNb := refInt_at b
    obtain ⟨a0, a1, a2, a3, a4, a5, a6, a7, a8, a9⟩ := ha
    obtain ⟨b0, b1, b2, b3, b4, b5, b6, b7, b8, b9⟩ := hb
    simp only [Nat.zero_add, Nat.reduceAdd] at *
    have hlt := World.block_lt_of_cell? w _ a0
    cases t1 : isTruB a <;> cases h1 : isIntB a
    · rw [t1] at hTa ht
      rw [h1] at hNa hn
      clear t1 h1 ht hn
      obtain ⟨ka, xa, ca, na, sa, ra, fa, la⟩ := a
      obtain ⟨kb, xb, cb, nb, sb, rb, fb, lb⟩ := b
      unfold Ob.vl at *
      simp only at *
      go_enter Tryd.func12, Tryd.ntmps12
      go_wp2_with fail
      refine (hTa _).mono ?_; rintro e w1 ⟨rfl, hb1⟩
      have p10 := rule hb1 (w.heap.size) (by simp <;> omega)
      have p11 := rule hb1 (w.heap.size + 1) (by simp <;> omega)
      have HB1 := Lib.hid (bthen (below2 _ _ _ ) hb1)
      have hz1 : w.heap.size + 1 < w1.heap.size := by have := hb1.size; simp at this; omega
      clear hb1
      go_wp2_with fail
      refine (hNa _).mono ?_; rintro e w2 ⟨rfl, hb2⟩
      have p20 := rule hb2 (w.heap.size) (by omega)
      have p21 := rule hb2 (w.heap.size + 1) (by omega)
      have HB2 := Lib.hid (bthen HB1.out hb2)
      have hz2 : w.heap.size + 1 < w2.heap.size := by have := hb2.size; omega
      clear hb2
      go_wp2_with fail
      go_ret2
      exact RefO.err (by decide) HB2.out
    · rw [t1] at hTa ht
      rw [h1] at hNa hn
      have h2 : isIntB b = false := by simpa using hn
      rw [h2] at hNb
      clear h2
      clear t1 h1 ht hn
      obtain ⟨ka, xa, ca, na, sa, ra, fa, la⟩ := a
      obtain ⟨kb, xb, cb, nb, sb, rb, fb, lb⟩ := b
      unfold Ob.vl at *
      simp only at *
      go_enter Tryd.func12, Tryd.ntmps12
      go_wp2_with fail
      refine (hTa _).mono ?_; rintro e w1 ⟨rfl, hb1⟩
      have p10 := rule hb1 (w.heap.size) (by simp <;> omega)
      have p11 := rule hb1 (w.heap.size + 1) (by simp <;> omega)
      have HB1 := Lib.hid (bthen (below2 _ _ _ ) hb1)
      have hz1 : w.heap.size + 1 < w1.heap.size := by have := hb1.size; simp at this; omega
      clear hb1
      go_wp2_with fail
      refine (hNa _).mono ?_; rintro e w2 ⟨rfl, hb2⟩
      have p20 := rule hb2 (w.heap.size) (by omega)
      have p21 := rule hb2 (w.heap.size + 1) (by omega)
      have HB2 := Lib.hid (bthen HB1.out hb2)
      have hz2 : w.heap.size + 1 < w2.heap.size := by have := hb2.size; omega
      clear hb2
      go_wp2_with fail
      refine (hNb _).mono ?_; rintro e w3 ⟨rfl, hb3⟩
      have p30 := rule hb3 (w.heap.size) (by omega)
      have p31 := rule hb3 (w.heap.size + 1) (by omega)
      have HB3 := Lib.hid (bthen HB2.out hb3)
      have hz3 : w.heap.size + 1 < w3.heap.size := by have := hb3.size; omega
      clear hb3
      go_wp2_with fail
      go_ret2
      exact RefO.err (by decide) HB3.out
    · rw [t1] at hTa ht
      rw [h1] at hNa hn
      have t2 : isTruB b = false := by simpa using ht
      rw [t2] at hTb
      clear t2
      clear t1 h1 ht hn
      obtain ⟨ka, xa, ca, na, sa, ra, fa, la⟩ := a
      obtain ⟨kb, xb, cb, nb, sb, rb, fb, lb⟩ := b
      unfold Ob.vl at *
      simp only at *
      go_enter Tryd.func12, Tryd.ntmps12
      go_wp2_with fail
      refine (hTa _).mono ?_; rintro e w1 ⟨rfl, hb1⟩
      have p10 := rule hb1 (w.heap.size) (by simp <;> omega)
      have p11 := rule hb1 (w.heap.size + 1) (by simp <;> omega)
      have HB1 := Lib.hid (bthen (below2 _ _ _ ) hb1)
      have hz1 : w.heap.size + 1 < w1.heap.size := by have := hb1.size; simp at this; omega
      clear hb1
      go_wp2_with fail
      refine (hTb _).mono ?_; rintro e w2 ⟨rfl, hb2⟩
      have p20 := rule hb2 (w.heap.size) (by omega)
      have p21 := rule hb2 (w.heap.size + 1) (by omega)
      have HB2 := Lib.hid (bthen HB1.out hb2)
      have hz2 : w.heap.size + 1 < w2.heap.size := by have := hb2.size; omega
      clear hb2
      go_wp2_with fail
      refine (hNa _).mono ?_; rintro e w3 ⟨rfl, hb3⟩
      have p30 := rule hb3 (w.heap.size) (by omega)
      have p31 := rule hb3 (w.heap.size + 1) (by omega)
      have HB3 := Lib.hid (bthen HB2.out hb3)
      have hz3 : w.heap.size + 1 < w3.heap.size := by have := hb3.size; omega
      clear hb3
      go_wp2_with fail
      go_ret2
      exact RefO.err (by decide) HB3.out
    · rw [t1] at hTa ht
      rw [h1] at hNa hn
      have t2 : isTruB b = false := by simpa using ht
      rw [t2] at hTb
      clear t2
      have h2 : isIntB b = false := by simpa using hn
      rw [h2] at hNb
      clear h2
      clear t1 h1 ht hn
      obtain ⟨ka, xa, ca, na, sa, ra, fa, la⟩ := a
      obtain ⟨kb, xb, cb, nb, sb, rb, fb, lb⟩ := b
      unfold Ob.vl at *
      simp only at *
      go_enter Tryd.func12, Tryd.ntmps12
      go_wp2_with fail
      refine (hTa _).mono ?_; rintro e w1 ⟨rfl, hb1⟩
      have p10 := rule hb1 (w.heap.size) (by simp <;> omega)
      have p11 := rule hb1 (w.heap.size + 1) (by simp <;> omega)
      have HB1 := Lib.hid (bthen (below2 _ _ _ ) hb1)
      have hz1 : w.heap.size + 1 < w1.heap.size := by have := hb1.size; simp at this; omega
      clear hb1
      go_wp2_with fail
      refine (hTb _).mono ?_; rintro e w2 ⟨rfl, hb2⟩
      have p20 := rule hb2 (w.heap.size) (by omega)
      have p21 := rule hb2 (w.heap.size + 1) (by omega)
      have HB2 := Lib.hid (bthen HB1.out hb2)
      have hz2 : w.heap.size + 1 < w2.heap.size := by have := hb2.size; omega
      clear hb2
      go_wp2_with fail
      refine (hNa _).mono ?_; rintro e w3 ⟨rfl, hb3⟩
      have p30 := rule hb3 (w.heap.size) (by omega)
      have p31 := rule hb3 (w.heap.size + 1) (by omega)
      have HB3 := Lib.hid (bthen HB2.out hb3)
      have hz3 : w.heap.size + 1 < w3.heap.size := by have := hb3.size; omega
      clear hb3
      go_wp2_with fail
      refine (hNb _).mono ?_; rintro e w4 ⟨rfl, hb4⟩
      have p40 := rule hb4 (w.heap.size) (by omega)
      have p41 := rule hb4 (w.heap.size + 1) (by omega)
      have HB4 := Lib.hid (bthen HB3.out hb4)
      have hz4 : w.heap.size + 1 < w4.heap.size := by have := hb4.size; omega
      clear hb4
      go_wp2_with fail
      go_ret2
      exact RefO.err (by decide) HB4.out
set_option maxHeartbeats 2000000 in
set_option maxRecDepth 100000 in
theorem ref_or_int {a b : Ob} {B c : Nat} {w : World} (ha : At10 w B 0 a) (hb : At10 w B 10 b) (hn : (isIntB a && isIntB b) = true) : Calls Tryd.prog 12 #[.string ⟨#[111, 114]⟩, .slice (some ⟨B, 0, none⟩) 2 c] w fun e w' => RefO w (bitO (fun x y => bits .or .i64 x y) a b) e w' := by
    rw [Bool.and_eq_true] at hn
    obtain ⟨k1, x1, x2⟩ := (isInt_iff a).1 hn.1
    obtain ⟨-, y1, y2⟩ := (isInt_iff b).1 hn.2
    have fa := (fits_iff a.n).2 ⟨x1, x2⟩
    have fb := (fits_iff b.n).2 ⟨y1, y2⟩
    have e0 : bitO (fun x y => bits .or .i64 x y) a b = okO 1 (bits .or .i64 a.n b.n) := by unfold bitO; rw [if_pos (.inr (by rw [hn.1, hn.2]; rfl)), k1]
    rw [e0]
    clear e0
    have hTa := refTru_at a
    have hTb := refTru_at b
    have hNa := refInt_at a
    have hNb := refInt_at b
    rw [hn.1] at hNa
    rw [hn.2] at hNb
    have t1 : isTruB a = false := by
      cases h : isTruB a
      · rfl
      · have := ((isTru_iff a).1 h).1; omega
    rw [t1] at hTa
    have HBw := Lib.hid (fun W => refBitw_or a.n b.n fa fb W)
    generalize bits .or .i64 a.n b.n = v at *
    have HW := Lib.hid (fun W => refWhole_at v W)
    have HO := Lib.hid (fun W => refOne_at 1 v W)
    clear t1 hn k1 fa fb hTb
    obtain ⟨a0, a1, a2, a3, a4, a5, a6, a7, a8, a9⟩ := ha
    obtain ⟨b0, b1, b2, b3, b4, b5, b6, b7, b8, b9⟩ := hb
    simp only [Nat.zero_add, Nat.reduceAdd] at *
    have hlt := World.block_lt_of_cell? w _ a0
    obtain ⟨ka, xa, ca, na, sa, ra, fa, la⟩ := a
    obtain ⟨kb, xb, cb, nb, sb, rb, fb, lb⟩ := b
    unfold mk Ob.vl at *
    simp only at *
    go_enter Tryd.func12, Tryd.ntmps12
    go_wp2_with fail
    refine (hTa _).mono ?_; rintro e w1 ⟨rfl, hb1⟩
    have p10 := rule hb1 (w.heap.size) (by simp <;> omega)
    have p11 := rule hb1 (w.heap.size + 1) (by simp <;> omega)
    have HB1 := Lib.hid (bthen (below2 _ _ _ ) hb1)
    have hz1 : w.heap.size + 1 < w1.heap.size := by have := hb1.size; simp at this; omega
    clear hb1
    go_wp2_with fail
    refine (hNa _).mono ?_; rintro e w2 ⟨rfl, hb2⟩
    have p20 := rule hb2 (w.heap.size) (by omega)
    have p21 := rule hb2 (w.heap.size + 1) (by omega)
    have HB2 := Lib.hid (bthen HB1.out hb2)
    have hz2 : w.heap.size + 1 < w2.heap.size := by have := hb2.size; omega
    clear hb2
    go_wp2_with fail
    refine (hNb _).mono ?_; rintro e w3 ⟨rfl, hb3⟩
    have p30 := rule hb3 (w.heap.size) (by omega)
    have p31 := rule hb3 (w.heap.size + 1) (by omega)
    have HB3 := Lib.hid (bthen HB2.out hb3)
    have hz3 : w.heap.size + 1 < w3.heap.size := by have := hb3.size; omega
    clear hb3
    go_wp2_with fail
    refine (HBw.out _).mono ?_; rintro e w4 ⟨rfl, rfl⟩
    go_wp2_with fail
    refine (HW.out _).mono ?_; rintro e w4 ⟨rfl, hb4⟩
    have HB4 := Lib.hid (bthen HB3.out hb4)
    clear hb4
    go_wp2_with fail
    refine (HO.out _).mono ?_; rintro e w5 ⟨bq, hbq, rfl, hro⟩
    have HRO := Lib.hid (hro.after HB4.out)
    clear hro
    go_wp2_with fail
    go_ret2
    exact HRO.out
set_option maxHeartbeats 4000000 in
set_option maxRecDepth 100000 in
theorem ref_or_tru {a b : Ob} {B c : Nat} {w : World} (ha : At10 w B 0 a) (hb : At10 w B 10 b) (ht : (isTruB a && isTruB b) = true) : Calls Tryd.prog 12 #[.string ⟨#[111, 114]⟩, .slice (some ⟨B, 0, none⟩) 2 c] w fun e w' => RefO w (bitO (fun x y => bits .or .i64 x y) a b) e w' := by
    rw [Bool.and_eq_true] at ht
    obtain ⟨k1, x1⟩ := (isTru_iff a).1 ht.1
    obtain ⟨-, y1⟩ := (isTru_iff b).1 ht.2
    have e0 : bitO (fun x y => bits .or .i64 x y) a b = okO 3 (bits .or .i64 a.n b.n) := by unfold bitO; rw [if_pos (.inl (by rw [ht.1, ht.2]; rfl)), k1]
    rw [e0]
    clear e0
    have hTa := refTru_at a
    have hTb := refTru_at b
    rw [ht.1] at hTa
    rw [ht.2] at hTb
    clear k1 ht
    obtain ⟨a0, a1, a2, a3, a4, a5, a6, a7, a8, a9⟩ := ha
    obtain ⟨b0, b1, b2, b3, b4, b5, b6, b7, b8, b9⟩ := hb
    simp only [Nat.zero_add, Nat.reduceAdd] at *
    have hlt := World.block_lt_of_cell? w _ a0
    obtain ⟨ka, xa, ca, na, sa, ra, fa, la⟩ := a
    obtain ⟨kb, xb, cb, nb, sb, rb, fb, lb⟩ := b
    simp only at *
    rcases x1 with rfl | rfl <;> rcases y1 with rfl | rfl
    · rw [show bits .or .i64 0 0 = 0 by decide]
      have HL : (∀ W, Calls Tryd.prog 24 #[.string ⟨#[111, 114]⟩, .bool false, .bool false] W fun e w' => e = .returned (.bool false) ∧ W = w') := fun W => refLogic_or false false W
      have HT : ∀ W, Calls Tryd.prog 20 #[.bool false] W fun e w' => e = .returned (mk 3 0).vl ∧ Below W.heap.size W w' := fun W => refTruth_at false W
      have HO := fun W => refOne_at 3 0 W
      unfold mk Ob.vl at *
      simp only at *
      go_enter Tryd.func12, Tryd.ntmps12
      go_wp2_with fail
      refine (hTa _).mono ?_; rintro e w1 ⟨rfl, hb1⟩
      have p10 := rule hb1 (w.heap.size) (by simp <;> omega)
      have p11 := rule hb1 (w.heap.size + 1) (by simp <;> omega)
      have HB1 := Lib.hid (bthen (below2 _ _ _ ) hb1)
      have hz1 : w.heap.size + 1 < w1.heap.size := by have := hb1.size; simp at this; omega
      clear hb1
      go_wp2_with fail
      refine (hTb _).mono ?_; rintro e w2 ⟨rfl, hb2⟩
      have p20 := rule hb2 (w.heap.size) (by omega)
      have p21 := rule hb2 (w.heap.size + 1) (by omega)
      have HB2 := Lib.hid (bthen HB1.out hb2)
      have hz2 : w.heap.size + 1 < w2.heap.size := by have := hb2.size; omega
      clear hb2
      go_wp2_with fail
      refine (HL _).mono ?_; rintro e w3 ⟨rfl, rfl⟩
      go_wp2_with fail
      refine (HT _).mono ?_; rintro e w3 ⟨rfl, hb3⟩
      have HB3 := Lib.hid (bthen HB2.out hb3)
      clear hb3
      go_wp2_with fail
      refine (HO _).mono ?_; rintro e w4 ⟨bq, hbq, rfl, hro⟩
      have HRO := Lib.hid (hro.after HB3.out)
      clear hro
      go_wp2_with fail
      go_ret2
      exact HRO.out
    · rw [show bits .or .i64 0 1 = 1 by decide]
      have HL : (∀ W, Calls Tryd.prog 24 #[.string ⟨#[111, 114]⟩, .bool false, .bool true] W fun e w' => e = .returned (.bool true) ∧ W = w') := fun W => refLogic_or false true W
      have HT : ∀ W, Calls Tryd.prog 20 #[.bool true] W fun e w' => e = .returned (mk 3 1).vl ∧ Below W.heap.size W w' := fun W => refTruth_at true W
      have HO := fun W => refOne_at 3 1 W
      unfold mk Ob.vl at *
      simp only at *
      go_enter Tryd.func12, Tryd.ntmps12
      go_wp2_with fail
      refine (hTa _).mono ?_; rintro e w1 ⟨rfl, hb1⟩
      have p10 := rule hb1 (w.heap.size) (by simp <;> omega)
      have p11 := rule hb1 (w.heap.size + 1) (by simp <;> omega)
      have HB1 := Lib.hid (bthen (below2 _ _ _ ) hb1)
      have hz1 : w.heap.size + 1 < w1.heap.size := by have := hb1.size; simp at this; omega
      clear hb1
      go_wp2_with fail
      refine (hTb _).mono ?_; rintro e w2 ⟨rfl, hb2⟩
      have p20 := rule hb2 (w.heap.size) (by omega)
      have p21 := rule hb2 (w.heap.size + 1) (by omega)
      have HB2 := Lib.hid (bthen HB1.out hb2)
      have hz2 : w.heap.size + 1 < w2.heap.size := by have := hb2.size; omega
      clear hb2
      go_wp2_with fail
      refine (HL _).mono ?_; rintro e w3 ⟨rfl, rfl⟩
      go_wp2_with fail
      refine (HT _).mono ?_; rintro e w3 ⟨rfl, hb3⟩
      have HB3 := Lib.hid (bthen HB2.out hb3)
      clear hb3
      go_wp2_with fail
      refine (HO _).mono ?_; rintro e w4 ⟨bq, hbq, rfl, hro⟩
      have HRO := Lib.hid (hro.after HB3.out)
      clear hro
      go_wp2_with fail
      go_ret2
      exact HRO.out
    · rw [show bits .or .i64 1 0 = 1 by decide]
      have HL : (∀ W, Calls Tryd.prog 24 #[.string ⟨#[111, 114]⟩, .bool true, .bool false] W fun e w' => e = .returned (.bool true) ∧ W = w') := fun W => refLogic_or true false W
      have HT : ∀ W, Calls Tryd.prog 20 #[.bool true] W fun e w' => e = .returned (mk 3 1).vl ∧ Below W.heap.size W w' := fun W => refTruth_at true W
      have HO := fun W => refOne_at 3 1 W
      unfold mk Ob.vl at *
      simp only at *
      go_enter Tryd.func12, Tryd.ntmps12
      go_wp2_with fail
      refine (hTa _).mono ?_; rintro e w1 ⟨rfl, hb1⟩
      have p10 := rule hb1 (w.heap.size) (by simp <;> omega)
      have p11 := rule hb1 (w.heap.size + 1) (by simp <;> omega)
      have HB1 := Lib.hid (bthen (below2 _ _ _ ) hb1)
      have hz1 : w.heap.size + 1 < w1.heap.size := by have := hb1.size; simp at this; omega
      clear hb1
      go_wp2_with fail
      refine (hTb _).mono ?_; rintro e w2 ⟨rfl, hb2⟩
      have p20 := rule hb2 (w.heap.size) (by omega)
      have p21 := rule hb2 (w.heap.size + 1) (by omega)
      have HB2 := Lib.hid (bthen HB1.out hb2)
      have hz2 : w.heap.size + 1 < w2.heap.size := by have := hb2.size; omega
      clear hb2
      go_wp2_with fail
      refine (HL _).mono ?_; rintro e w3 ⟨rfl, rfl⟩
      go_wp2_with fail
      refine (HT _).mono ?_; rintro e w3 ⟨rfl, hb3⟩
      have HB3 := Lib.hid (bthen HB2.out hb3)
      clear hb3
      go_wp2_with fail
      refine (HO _).mono ?_; rintro e w4 ⟨bq, hbq, rfl, hro⟩
      have HRO := Lib.hid (hro.after HB3.out)
      clear hro
      go_wp2_with fail
      go_ret2
      exact HRO.out
    · rw [show bits .or .i64 1 1 = 1 by decide]
      have HL : (∀ W, Calls Tryd.prog 24 #[.string ⟨#[111, 114]⟩, .bool true, .bool true] W fun e w' => e = .returned (.bool true) ∧ W = w') := fun W => refLogic_or true true W
      have HT : ∀ W, Calls Tryd.prog 20 #[.bool true] W fun e w' => e = .returned (mk 3 1).vl ∧ Below W.heap.size W w' := fun W => refTruth_at true W
      have HO := fun W => refOne_at 3 1 W
      unfold mk Ob.vl at *
      simp only at *
      go_enter Tryd.func12, Tryd.ntmps12
      go_wp2_with fail
      refine (hTa _).mono ?_; rintro e w1 ⟨rfl, hb1⟩
      have p10 := rule hb1 (w.heap.size) (by simp <;> omega)
      have p11 := rule hb1 (w.heap.size + 1) (by simp <;> omega)
      have HB1 := Lib.hid (bthen (below2 _ _ _ ) hb1)
      have hz1 : w.heap.size + 1 < w1.heap.size := by have := hb1.size; simp at this; omega
      clear hb1
      go_wp2_with fail
      refine (hTb _).mono ?_; rintro e w2 ⟨rfl, hb2⟩
      have p20 := rule hb2 (w.heap.size) (by omega)
      have p21 := rule hb2 (w.heap.size + 1) (by omega)
      have HB2 := Lib.hid (bthen HB1.out hb2)
      have hz2 : w.heap.size + 1 < w2.heap.size := by have := hb2.size; omega
      clear hb2
      go_wp2_with fail
      refine (HL _).mono ?_; rintro e w3 ⟨rfl, rfl⟩
      go_wp2_with fail
      refine (HT _).mono ?_; rintro e w3 ⟨rfl, hb3⟩
      have HB3 := Lib.hid (bthen HB2.out hb3)
      clear hb3
      go_wp2_with fail
      refine (HO _).mono ?_; rintro e w4 ⟨bq, hbq, rfl, hro⟩
      have HRO := Lib.hid (hro.after HB3.out)
      clear hro
      go_wp2_with fail
      go_ret2
      exact HRO.out
theorem ref_or {a b : Ob} {B c : Nat} {w : World} (ha : At10 w B 0 a) (hb : At10 w B 10 b) : Calls Tryd.prog 12 #[.string ⟨#[111, 114]⟩, .slice (some ⟨B, 0, none⟩) 2 c] w fun e w' => RefO w (bitO (fun x y => bits .or .i64 x y) a b) e w' := by
  cases ht : (isTruB a && isTruB b)
  · cases hn : (isIntB a && isIntB b)
    · exact ref_or_no ha hb ht hn
    · exact ref_or_int ha hb hn
  · exact ref_or_tru ha hb ht
set_option maxHeartbeats 2000000 in
set_option maxRecDepth 100000 in
theorem ref_xor_no {a b : Ob} {B c : Nat} {w : World} (ha : At10 w B 0 a) (hb : At10 w B 10 b) (ht : (isTruB a && isTruB b) = false) (hn : (isIntB a && isIntB b) = false) : Calls Tryd.prog 12 #[.string ⟨#[120, 111, 114]⟩, .slice (some ⟨B, 0, none⟩) 2 c] w fun e w' => RefO w (bitO (fun x y => bits .xor .i64 x y) a b) e w' := by
    have e0 : bitO (fun x y => bits .xor .i64 x y) a b = noO 16 := by unfold bitO; rw [if_neg (by rw [ht, hn]; simp)]
    rw [e0]
    clear e0
    have hTa := refTru_at a
    have hTb := refTru_at b
    have hNa := refInt_at a
    have hNb := refInt_at b
    obtain ⟨a0, a1, a2, a3, a4, a5, a6, a7, a8, a9⟩ := ha
    obtain ⟨b0, b1, b2, b3, b4, b5, b6, b7, b8, b9⟩ := hb
    simp only [Nat.zero_add, Nat.reduceAdd] at *
    have hlt := World.block_lt_of_cell? w _ a0
    cases t1 : isTruB a <;> cases h1 : isIntB a
    · rw [t1] at hTa ht
      rw [h1] at hNa hn
      clear t1 h1 ht hn
      obtain ⟨ka, xa, ca, na, sa, ra, fa, la⟩ := a
      obtain ⟨kb, xb, cb, nb, sb, rb, fb, lb⟩ := b
      unfold Ob.vl at *
      simp only at *
      go_enter Tryd.func12, Tryd.ntmps12
      go_wp2_with fail
      refine (hTa _).mono ?_; rintro e w1 ⟨rfl, hb1⟩
      have p10 := rule hb1 (w.heap.size) (by simp <;> omega)
      have p11 := rule hb1 (w.heap.size + 1) (by simp <;> omega)
      have HB1 := Lib.hid (bthen (below2 _ _ _ ) hb1)
      have hz1 : w.heap.size + 1 < w1.heap.size := by have := hb1.size; simp at this; omega
      clear hb1
      go_wp2_with fail
      refine (hNa _).mono ?_; rintro e w2 ⟨rfl, hb2⟩
      have p20 := rule hb2 (w.heap.size) (by omega)
      have p21 := rule hb2 (w.heap.size + 1) (by omega)
      have HB2 := Lib.hid (bthen HB1.out hb2)
      have hz2 : w.heap.size + 1 < w2.heap.size := by have := hb2.size; omega
      clear hb2
      go_wp2_with fail
      go_ret2
      exact RefO.err (by decide) HB2.out
    · rw [t1] at hTa ht
      rw [h1] at hNa hn
      have h2 : isIntB b = false := by simpa using hn
      rw [h2] at hNb
      clear h2
      clear t1 h1 ht hn
      obtain ⟨ka, xa, ca, na, sa, ra, fa, la⟩ := a
      obtain ⟨kb, xb, cb, nb, sb, rb, fb, lb⟩ := b
      unfold Ob.vl at *
      simp only at *
      go_enter Tryd.func12, Tryd.ntmps12
      go_wp2_with fail
      refine (hTa _).mono ?_; rintro e w1 ⟨rfl, hb1⟩
      have p10 := rule hb1 (w.heap.size) (by simp <;> omega)
      have p11 := rule hb1 (w.heap.size + 1) (by simp <;> omega)
      have HB1 := Lib.hid (bthen (below2 _ _ _ ) hb1)
      have hz1 : w.heap.size + 1 < w1.heap.size := by have := hb1.size; simp at this; omega
      clear hb1
      go_wp2_with fail
      refine (hNa _).mono ?_; rintro e w2 ⟨rfl, hb2⟩
      have p20 := rule hb2 (w.heap.size) (by omega)
      have p21 := rule hb2 (w.heap.size + 1) (by omega)
      have HB2 := Lib.hid (bthen HB1.out hb2)
      have hz2 : w.heap.size + 1 < w2.heap.size := by have := hb2.size; omega
      clear hb2
      go_wp2_with fail
      refine (hNb _).mono ?_; rintro e w3 ⟨rfl, hb3⟩
      have p30 := rule hb3 (w.heap.size) (by omega)
      have p31 := rule hb3 (w.heap.size + 1) (by omega)
      have HB3 := Lib.hid (bthen HB2.out hb3)
      have hz3 : w.heap.size + 1 < w3.heap.size := by have := hb3.size; omega
      clear hb3
      go_wp2_with fail
      go_ret2
      exact RefO.err (by decide) HB3.out
    · rw [t1] at hTa ht
      rw [h1] at hNa hn
      have t2 : isTruB b = false := by simpa using ht
      rw [t2] at hTb
      clear t2
      clear t1 h1 ht hn
      obtain ⟨ka, xa, ca, na, sa, ra, fa, la⟩ := a
      obtain ⟨kb, xb, cb, nb, sb, rb, fb, lb⟩ := b
      unfold Ob.vl at *
      simp only at *
      go_enter Tryd.func12, Tryd.ntmps12
      go_wp2_with fail
      refine (hTa _).mono ?_; rintro e w1 ⟨rfl, hb1⟩
      have p10 := rule hb1 (w.heap.size) (by simp <;> omega)
      have p11 := rule hb1 (w.heap.size + 1) (by simp <;> omega)
      have HB1 := Lib.hid (bthen (below2 _ _ _ ) hb1)
      have hz1 : w.heap.size + 1 < w1.heap.size := by have := hb1.size; simp at this; omega
      clear hb1
      go_wp2_with fail
      refine (hTb _).mono ?_; rintro e w2 ⟨rfl, hb2⟩
      have p20 := rule hb2 (w.heap.size) (by omega)
      have p21 := rule hb2 (w.heap.size + 1) (by omega)
      have HB2 := Lib.hid (bthen HB1.out hb2)
      have hz2 : w.heap.size + 1 < w2.heap.size := by have := hb2.size; omega
      clear hb2
      go_wp2_with fail
      refine (hNa _).mono ?_; rintro e w3 ⟨rfl, hb3⟩
      have p30 := rule hb3 (w.heap.size) (by omega)
      have p31 := rule hb3 (w.heap.size + 1) (by omega)
      have HB3 := Lib.hid (bthen HB2.out hb3)
      have hz3 : w.heap.size + 1 < w3.heap.size := by have := hb3.size; omega
      clear hb3
      go_wp2_with fail
      go_ret2
      exact RefO.err (by decide) HB3.out
    · rw [t1] at hTa ht
      rw [h1] at hNa hn
      have t2 : isTruB b = false := by simpa using ht
      rw [t2] at hTb
      clear t2
      have h2 : isIntB b = false := by simpa using hn
      rw [h2] at hNb
      clear h2
      clear t1 h1 ht hn
      obtain ⟨ka, xa, ca, na, sa, ra, fa, la⟩ := a
      obtain ⟨kb, xb, cb, nb, sb, rb, fb, lb⟩ := b
      unfold Ob.vl at *
      simp only at *
      go_enter Tryd.func12, Tryd.ntmps12
      go_wp2_with fail
      refine (hTa _).mono ?_; rintro e w1 ⟨rfl, hb1⟩
      have p10 := rule hb1 (w.heap.size) (by simp <;> omega)
      have p11 := rule hb1 (w.heap.size + 1) (by simp <;> omega)
      have HB1 := Lib.hid (bthen (below2 _ _ _ ) hb1)
      have hz1 : w.heap.size + 1 < w1.heap.size := by have := hb1.size; simp at this; omega
      clear hb1
      go_wp2_with fail
      refine (hTb _).mono ?_; rintro e w2 ⟨rfl, hb2⟩
      have p20 := rule hb2 (w.heap.size) (by omega)
      have p21 := rule hb2 (w.heap.size + 1) (by omega)
      have HB2 := Lib.hid (bthen HB1.out hb2)
      have hz2 : w.heap.size + 1 < w2.heap.size := by have := hb2.size; omega
      clear hb2
      go_wp2_with fail
      refine (hNa _).mono ?_; rintro e w3 ⟨rfl, hb3⟩
      have p30 := rule hb3 (w.heap.size) (by omega)
      have p31 := rule hb3 (w.heap.size + 1) (by omega)
      have HB3 := Lib.hid (bthen HB2.out hb3)
      have hz3 : w.heap.size + 1 < w3.heap.size := by have := hb3.size; omega
      clear hb3
      go_wp2_with fail
      refine (hNb _).mono ?_; rintro e w4 ⟨rfl, hb4⟩
      have p40 := rule hb4 (w.heap.size) (by omega)
      have p41 := rule hb4 (w.heap.size + 1) (by omega)
      have HB4 := Lib.hid (bthen HB3.out hb4)
      have hz4 : w.heap.size + 1 < w4.heap.size := by have := hb4.size; omega
      clear hb4
      go_wp2_with fail
      go_ret2
      exact RefO.err (by decide) HB4.out
set_option maxHeartbeats 2000000 in
set_option maxRecDepth 100000 in
theorem ref_xor_int {a b : Ob} {B c : Nat} {w : World} (ha : At10 w B 0 a) (hb : At10 w B 10 b) (hn : (isIntB a && isIntB b) = true) : Calls Tryd.prog 12 #[.string ⟨#[120, 111, 114]⟩, .slice (some ⟨B, 0, none⟩) 2 c] w fun e w' => RefO w (bitO (fun x y => bits .xor .i64 x y) a b) e w' := by
    rw [Bool.and_eq_true] at hn
    obtain ⟨k1, x1, x2⟩ := (isInt_iff a).1 hn.1
    obtain ⟨-, y1, y2⟩ := (isInt_iff b).1 hn.2
    have fa := (fits_iff a.n).2 ⟨x1, x2⟩
    have fb := (fits_iff b.n).2 ⟨y1, y2⟩
    have e0 : bitO (fun x y => bits .xor .i64 x y) a b = okO 1 (bits .xor .i64 a.n b.n) := by unfold bitO; rw [if_pos (.inr (by rw [hn.1, hn.2]; rfl)), k1]
    rw [e0]
    clear e0
    have hTa := refTru_at a
    have hTb := refTru_at b
    have hNa := refInt_at a
    have hNb := refInt_at b
    rw [hn.1] at hNa
    rw [hn.2] at hNb
    have t1 : isTruB a = false := by
      cases h : isTruB a
      · rfl
      · have := ((isTru_iff a).1 h).1; omega
    rw [t1] at hTa
    have HBw := Lib.hid (fun W => refBitw_xor a.n b.n fa fb W)
    generalize bits .xor .i64 a.n b.n = v at *
    have HW := Lib.hid (fun W => refWhole_at v W)
    have HO := Lib.hid (fun W => refOne_at 1 v W)
    clear t1 hn k1 fa fb hTb
    obtain ⟨a0, a1, a2, a3, a4, a5, a6, a7, a8, a9⟩ := ha
    obtain ⟨b0, b1, b2, b3, b4, b5, b6, b7, b8, b9⟩ := hb
    simp only [Nat.zero_add, Nat.reduceAdd] at *
    have hlt := World.block_lt_of_cell? w _ a0
    obtain ⟨ka, xa, ca, na, sa, ra, fa, la⟩ := a
    obtain ⟨kb, xb, cb, nb, sb, rb, fb, lb⟩ := b
    unfold mk Ob.vl at *
    simp only at *
    go_enter Tryd.func12, Tryd.ntmps12
    go_wp2_with fail
    refine (hTa _).mono ?_; rintro e w1 ⟨rfl, hb1⟩
    have p10 := rule hb1 (w.heap.size) (by simp <;> omega)
    have p11 := rule hb1 (w.heap.size + 1) (by simp <;> omega)
    have HB1 := Lib.hid (bthen (below2 _ _ _ ) hb1)
    have hz1 : w.heap.size + 1 < w1.heap.size := by have := hb1.size; simp at this; omega
    clear hb1
    go_wp2_with fail
    refine (hNa _).mono ?_; rintro e w2 ⟨rfl, hb2⟩
    have p20 := rule hb2 (w.heap.size) (by omega)
    have p21 := rule hb2 (w.heap.size + 1) (by omega)
    have HB2 := Lib.hid (bthen HB1.out hb2)
    have hz2 : w.heap.size + 1 < w2.heap.size := by have := hb2.size; omega
    clear hb2
    go_wp2_with fail
    refine (hNb _).mono ?_; rintro e w3 ⟨rfl, hb3⟩
    have p30 := rule hb3 (w.heap.size) (by omega)
    have p31 := rule hb3 (w.heap.size + 1) (by omega)
    have HB3 := Lib.hid (bthen HB2.out hb3)
    have hz3 : w.heap.size + 1 < w3.heap.size := by have := hb3.size; omega
    clear hb3
    go_wp2_with fail
    refine (HBw.out _).mono ?_; rintro e w4 ⟨rfl, rfl⟩
    go_wp2_with fail
    refine (HW.out _).mono ?_; rintro e w4 ⟨rfl, hb4⟩
    have HB4 := Lib.hid (bthen HB3.out hb4)
    clear hb4
    go_wp2_with fail
    refine (HO.out _).mono ?_; rintro e w5 ⟨bq, hbq, rfl, hro⟩
    have HRO := Lib.hid (hro.after HB4.out)
    clear hro
    go_wp2_with fail
    go_ret2
    exact HRO.out
set_option maxHeartbeats 4000000 in
set_option maxRecDepth 100000 in
theorem ref_xor_tru {a b : Ob} {B c : Nat} {w : World} (ha : At10 w B 0 a) (hb : At10 w B 10 b) (ht : (isTruB a && isTruB b) = true) : Calls Tryd.prog 12 #[.string ⟨#[120, 111, 114]⟩, .slice (some ⟨B, 0, none⟩) 2 c] w fun e w' => RefO w (bitO (fun x y => bits .xor .i64 x y) a b) e w' := by
    rw [Bool.and_eq_true] at ht
    obtain ⟨k1, x1⟩ := (isTru_iff a).1 ht.1
    obtain ⟨-, y1⟩ := (isTru_iff b).1 ht.2
    have e0 : bitO (fun x y => bits .xor .i64 x y) a b = okO 3 (bits .xor .i64 a.n b.n) := by unfold bitO; rw [if_pos (.inl (by rw [ht.1, ht.2]; rfl)), k1]
    rw [e0]
    clear e0
    have hTa := refTru_at a
    have hTb := refTru_at b
    rw [ht.1] at hTa
    rw [ht.2] at hTb
    clear k1 ht
    obtain ⟨a0, a1, a2, a3, a4, a5, a6, a7, a8, a9⟩ := ha
    obtain ⟨b0, b1, b2, b3, b4, b5, b6, b7, b8, b9⟩ := hb
    simp only [Nat.zero_add, Nat.reduceAdd] at *
    have hlt := World.block_lt_of_cell? w _ a0
    obtain ⟨ka, xa, ca, na, sa, ra, fa, la⟩ := a
    obtain ⟨kb, xb, cb, nb, sb, rb, fb, lb⟩ := b
    simp only at *
    rcases x1 with rfl | rfl <;> rcases y1 with rfl | rfl
    · rw [show bits .xor .i64 0 0 = 0 by decide]
      have HL : (∀ W, Calls Tryd.prog 24 #[.string ⟨#[120, 111, 114]⟩, .bool false, .bool false] W fun e w' => e = .returned (.bool false) ∧ W = w') := fun W => refLogic_xor false false W
      have HT : ∀ W, Calls Tryd.prog 20 #[.bool false] W fun e w' => e = .returned (mk 3 0).vl ∧ Below W.heap.size W w' := fun W => refTruth_at false W
      have HO := fun W => refOne_at 3 0 W
      unfold mk Ob.vl at *
      simp only at *
      go_enter Tryd.func12, Tryd.ntmps12
      go_wp2_with fail
      refine (hTa _).mono ?_; rintro e w1 ⟨rfl, hb1⟩
      have p10 := rule hb1 (w.heap.size) (by simp <;> omega)
      have p11 := rule hb1 (w.heap.size + 1) (by simp <;> omega)
      have HB1 := Lib.hid (bthen (below2 _ _ _ ) hb1)
      have hz1 : w.heap.size + 1 < w1.heap.size := by have := hb1.size; simp at this; omega
      clear hb1
      go_wp2_with fail
      refine (hTb _).mono ?_; rintro e w2 ⟨rfl, hb2⟩
      have p20 := rule hb2 (w.heap.size) (by omega)
      have p21 := rule hb2 (w.heap.size + 1) (by omega)
      have HB2 := Lib.hid (bthen HB1.out hb2)
      have hz2 : w.heap.size + 1 < w2.heap.size := by have := hb2.size; omega
      clear hb2
      go_wp2_with fail
      refine (HL _).mono ?_; rintro e w3 ⟨rfl, rfl⟩
      go_wp2_with fail
      refine (HT _).mono ?_; rintro e w3 ⟨rfl, hb3⟩
      have HB3 := Lib.hid (bthen HB2.out hb3)
      clear hb3
      go_wp2_with fail
      refine (HO _).mono ?_; rintro e w4 ⟨bq, hbq, rfl, hro⟩
      have HRO := Lib.hid (hro.after HB3.out)
      clear hro
      go_wp2_with fail
      go_ret2
      exact HRO.out
    · rw [show bits .xor .i64 0 1 = 1 by decide]
      have HL : (∀ W, Calls Tryd.prog 24 #[.string ⟨#[120, 111, 114]⟩, .bool false, .bool true] W fun e w' => e = .returned (.bool true) ∧ W = w') := fun W => refLogic_xor false true W
      have HT : ∀ W, Calls Tryd.prog 20 #[.bool true] W fun e w' => e = .returned (mk 3 1).vl ∧ Below W.heap.size W w' := fun W => refTruth_at true W
      have HO := fun W => refOne_at 3 1 W
      unfold mk Ob.vl at *
      simp only at *
      go_enter Tryd.func12, Tryd.ntmps12
      go_wp2_with fail
      refine (hTa _).mono ?_; rintro e w1 ⟨rfl, hb1⟩
      have p10 := rule hb1 (w.heap.size) (by simp <;> omega)
      have p11 := rule hb1 (w.heap.size + 1) (by simp <;> omega)
      have HB1 := Lib.hid (bthen (below2 _ _ _ ) hb1)
      have hz1 : w.heap.size + 1 < w1.heap.size := by have := hb1.size; simp at this; omega
      clear hb1
      go_wp2_with fail
      refine (hTb _).mono ?_; rintro e w2 ⟨rfl, hb2⟩
      have p20 := rule hb2 (w.heap.size) (by omega)
      have p21 := rule hb2 (w.heap.size + 1) (by omega)
      have HB2 := Lib.hid (bthen HB1.out hb2)
      have hz2 : w.heap.size + 1 < w2.heap.size := by have := hb2.size; omega
      clear hb2
      go_wp2_with fail
      refine (HL _).mono ?_; rintro e w3 ⟨rfl, rfl⟩
      go_wp2_with fail
      refine (HT _).mono ?_; rintro e w3 ⟨rfl, hb3⟩
      have HB3 := Lib.hid (bthen HB2.out hb3)
      clear hb3
      go_wp2_with fail
      refine (HO _).mono ?_; rintro e w4 ⟨bq, hbq, rfl, hro⟩
      have HRO := Lib.hid (hro.after HB3.out)
      clear hro
      go_wp2_with fail
      go_ret2
      exact HRO.out
    · rw [show bits .xor .i64 1 0 = 1 by decide]
      have HL : (∀ W, Calls Tryd.prog 24 #[.string ⟨#[120, 111, 114]⟩, .bool true, .bool false] W fun e w' => e = .returned (.bool true) ∧ W = w') := fun W => refLogic_xor true false W
      have HT : ∀ W, Calls Tryd.prog 20 #[.bool true] W fun e w' => e = .returned (mk 3 1).vl ∧ Below W.heap.size W w' := fun W => refTruth_at true W
      have HO := fun W => refOne_at 3 1 W
      unfold mk Ob.vl at *
      simp only at *
      go_enter Tryd.func12, Tryd.ntmps12
      go_wp2_with fail
      refine (hTa _).mono ?_; rintro e w1 ⟨rfl, hb1⟩
      have p10 := rule hb1 (w.heap.size) (by simp <;> omega)
      have p11 := rule hb1 (w.heap.size + 1) (by simp <;> omega)
      have HB1 := Lib.hid (bthen (below2 _ _ _ ) hb1)
      have hz1 : w.heap.size + 1 < w1.heap.size := by have := hb1.size; simp at this; omega
      clear hb1
      go_wp2_with fail
      refine (hTb _).mono ?_; rintro e w2 ⟨rfl, hb2⟩
      have p20 := rule hb2 (w.heap.size) (by omega)
      have p21 := rule hb2 (w.heap.size + 1) (by omega)
      have HB2 := Lib.hid (bthen HB1.out hb2)
      have hz2 : w.heap.size + 1 < w2.heap.size := by have := hb2.size; omega
      clear hb2
      go_wp2_with fail
      refine (HL _).mono ?_; rintro e w3 ⟨rfl, rfl⟩
      go_wp2_with fail
      refine (HT _).mono ?_; rintro e w3 ⟨rfl, hb3⟩
      have HB3 := Lib.hid (bthen HB2.out hb3)
      clear hb3
      go_wp2_with fail
      refine (HO _).mono ?_; rintro e w4 ⟨bq, hbq, rfl, hro⟩
      have HRO := Lib.hid (hro.after HB3.out)
      clear hro
      go_wp2_with fail
      go_ret2
      exact HRO.out
    · rw [show bits .xor .i64 1 1 = 0 by decide]
      have HL : (∀ W, Calls Tryd.prog 24 #[.string ⟨#[120, 111, 114]⟩, .bool true, .bool true] W fun e w' => e = .returned (.bool false) ∧ W = w') := fun W => refLogic_xor true true W
      have HT : ∀ W, Calls Tryd.prog 20 #[.bool false] W fun e w' => e = .returned (mk 3 0).vl ∧ Below W.heap.size W w' := fun W => refTruth_at false W
      have HO := fun W => refOne_at 3 0 W
      unfold mk Ob.vl at *
      simp only at *
      go_enter Tryd.func12, Tryd.ntmps12
      go_wp2_with fail
      refine (hTa _).mono ?_; rintro e w1 ⟨rfl, hb1⟩
      have p10 := rule hb1 (w.heap.size) (by simp <;> omega)
      have p11 := rule hb1 (w.heap.size + 1) (by simp <;> omega)
      have HB1 := Lib.hid (bthen (below2 _ _ _ ) hb1)
      have hz1 : w.heap.size + 1 < w1.heap.size := by have := hb1.size; simp at this; omega
      clear hb1
      go_wp2_with fail
      refine (hTb _).mono ?_; rintro e w2 ⟨rfl, hb2⟩
      have p20 := rule hb2 (w.heap.size) (by omega)
      have p21 := rule hb2 (w.heap.size + 1) (by omega)
      have HB2 := Lib.hid (bthen HB1.out hb2)
      have hz2 : w.heap.size + 1 < w2.heap.size := by have := hb2.size; omega
      clear hb2
      go_wp2_with fail
      refine (HL _).mono ?_; rintro e w3 ⟨rfl, rfl⟩
      go_wp2_with fail
      refine (HT _).mono ?_; rintro e w3 ⟨rfl, hb3⟩
      have HB3 := Lib.hid (bthen HB2.out hb3)
      clear hb3
      go_wp2_with fail
      refine (HO _).mono ?_; rintro e w4 ⟨bq, hbq, rfl, hro⟩
      have HRO := Lib.hid (hro.after HB3.out)
      clear hro
      go_wp2_with fail
      go_ret2
      exact HRO.out
theorem ref_xor {a b : Ob} {B c : Nat} {w : World} (ha : At10 w B 0 a) (hb : At10 w B 10 b) : Calls Tryd.prog 12 #[.string ⟨#[120, 111, 114]⟩, .slice (some ⟨B, 0, none⟩) 2 c] w fun e w' => RefO w (bitO (fun x y => bits .xor .i64 x y) a b) e w' := by
  cases ht : (isTruB a && isTruB b)
  · cases hn : (isIntB a && isIntB b)
    · exact ref_xor_no ha hb ht hn
    · exact ref_xor_int ha hb hn
  · exact ref_xor_tru ha hb ht
end Ari
end Go.Proofs.YtgbpldfcahajeaaDoor
