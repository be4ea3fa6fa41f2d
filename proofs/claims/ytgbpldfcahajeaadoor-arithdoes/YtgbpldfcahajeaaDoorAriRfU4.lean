/-
  The document's own Arith: not (made by genref.py).
-/
import Derived.Test.YtgbpldfcahajeaaDoorAriRf
import Derived.Test.YtgbpldfcahajeaaDoorAriUnw
import Derived.Test.YtgbpldfcahajeaaDoorAriBits
import Derived.Deep.RegionWith
namespace Go.Proofs.YtgbpldfcahajeaaDoor
open Go.RowKit
open Fx
namespace Ari
set_option maxHeartbeats 2000000 in
set_option maxRecDepth 100000 in
theorem ref_not_tru {a : Ob} {B c : Nat} {w : World} (ha : At10 w B 0 a) (ht : isTruB a = true) : Calls Tryd.prog 12 #[.string ⟨#[110, 111, 116]⟩, .slice (some ⟨B, 0, none⟩) 1 c] w fun e w' => RefO w (notO a) e w' := by
    obtain ⟨k1, x1⟩ := (isTru_iff a).1 ht
    have e0 : notO a = okO 3 (bits .xor .i64 a.n 1) := by unfold notO; rw [if_pos k1]; unfold bitO; rw [if_pos (.inl (by rw [ht]; decide)), k1]; rfl
    rw [e0]
    clear e0
    have hTa := refTru_at a
    rw [ht] at hTa
    clear k1 ht
    obtain ⟨a0, a1, a2, a3, a4, a5, a6, a7, a8, a9⟩ := ha
    simp only [Nat.zero_add] at *
    have hlt := World.block_lt_of_cell? w _ a0
    obtain ⟨ka, xa, ca, na, sa, ra, fa, la⟩ := a
    simp only at *
    rcases x1 with rfl | rfl
    · rw [show bits .xor .i64 0 1 = 1 by decide]
      have HT : ∀ W, Calls Tryd.prog 20 #[.bool true] W fun e w' => e = .returned (mk 3 1).vl ∧ Below W.heap.size W w' := fun W => refTruth_at true W
      have HO := fun W => refOne_at 3 1 W
      unfold mk Ob.vl at *
      simp only at *
      go_enter Tryd.func12, Tryd.ntmps12
      go_wp2_with fail
      refine (hTa _).mono ?_; rintro e w1 ⟨rfl, hb1⟩
      have p10 := rule hb1 (w.heap.size) (by simp <;> omega)
      have HB1 := Lib.hid (bthen (below1 _ _ ) hb1)
      have hz1 : w.heap.size < w1.heap.size := by have := hb1.size; simp at this; omega
      clear hb1
      go_wp2_with fail
      refine (HT _).mono ?_; rintro e w3 ⟨rfl, hb3⟩
      have HB3 := Lib.hid (bthen HB1.out hb3)
      clear hb3
      go_wp2_with fail
      refine (HO _).mono ?_; rintro e w4 ⟨bq, hbq, rfl, hro⟩
      have HRO := Lib.hid (hro.after HB3.out)
      clear hro
      go_wp2_with fail
      go_ret2
      exact HRO.out
    · rw [show bits .xor .i64 1 1 = 0 by decide]
      have HT : ∀ W, Calls Tryd.prog 20 #[.bool false] W fun e w' => e = .returned (mk 3 0).vl ∧ Below W.heap.size W w' := fun W => refTruth_at false W
      have HO := fun W => refOne_at 3 0 W
      unfold mk Ob.vl at *
      simp only at *
      go_enter Tryd.func12, Tryd.ntmps12
      go_wp2_with fail
      refine (hTa _).mono ?_; rintro e w1 ⟨rfl, hb1⟩
      have p10 := rule hb1 (w.heap.size) (by simp <;> omega)
      have HB1 := Lib.hid (bthen (below1 _ _ ) hb1)
      have hz1 : w.heap.size < w1.heap.size := by have := hb1.size; simp at this; omega
      clear hb1
      go_wp2_with fail
      refine (HT _).mono ?_; rintro e w3 ⟨rfl, hb3⟩
      have HB3 := Lib.hid (bthen HB1.out hb3)
      clear hb3
      go_wp2_with fail
      refine (HO _).mono ?_; rintro e w4 ⟨bq, hbq, rfl, hro⟩
      have HRO := Lib.hid (hro.after HB3.out)
      clear hro
      go_wp2_with fail
      go_ret2
      exact HRO.out
set_option maxHeartbeats 2000000 in
set_option maxRecDepth 100000 in
theorem ref_not_int {a : Ob} {B c : Nat} {w : World} (ha : At10 w B 0 a) (hn : isIntB a = true) : Calls Tryd.prog 12 #[.string ⟨#[110, 111, 116]⟩, .slice (some ⟨B, 0, none⟩) 1 c] w fun e w' => RefO w (notO a) e w' := by
    obtain ⟨k1, x1, x2⟩ := (isInt_iff a).1 hn
    have fa := (fits_iff a.n).2 ⟨x1, x2⟩
    have e0 : notO a = okO 1 (-1 - a.n) := by unfold notO; rw [if_neg (by omega)]; unfold bitO; rw [if_pos (.inr (by rw [hn]; decide)), k1]; show okO 1 (bits .xor .i64 a.n (-1)) = _; rw [xor_ones fa]
    rw [e0]
    clear e0
    have hTa := refTru_at a
    have hNa := refInt_at a
    rw [hn] at hNa
    have t1 : isTruB a = false := by
      cases h : isTruB a
      · rfl
      · have := ((isTru_iff a).1 h).1; omega
    rw [t1] at hTa
    have HW := fun W => refWhole_at (-1 - a.n) W
    have HO := fun W => refOne_at 1 (-1 - a.n) W
    clear hn t1 fa k1
    obtain ⟨a0, a1, a2, a3, a4, a5, a6, a7, a8, a9⟩ := ha
    simp only [Nat.zero_add] at *
    have hlt := World.block_lt_of_cell? w _ a0
    obtain ⟨ka, xa, ca, na, sa, ra, fa, la⟩ := a
    unfold mk Ob.vl at *
    simp only at *
    go_enter Tryd.func12, Tryd.ntmps12
    go_wp2_with fail
    refine (hTa _).mono ?_; rintro e w1 ⟨rfl, hb1⟩
    have p10 := rule hb1 (w.heap.size) (by simp <;> omega)
    have HB1 := Lib.hid (bthen (below1 _ _ ) hb1)
    have hz1 : w.heap.size < w1.heap.size := by have := hb1.size; simp at this; omega
    clear hb1
    go_wp2_with fail
    refine (hNa _).mono ?_; rintro e w2 ⟨rfl, hb2⟩
    have p20 := rule hb2 (w.heap.size) (by omega)
    have HB2 := Lib.hid (bthen HB1.out hb2)
    have hz2 : w.heap.size < w2.heap.size := by have := hb2.size; omega
    clear hb2
    go_wp2_with fail
    refine (HW _).mono ?_; rintro e w3 ⟨rfl, hb3⟩
    have HB3 := Lib.hid (bthen HB2.out hb3)
    clear hb3
    go_wp2_with fail
    refine (HO _).mono ?_; rintro e w4 ⟨bq, hbq, rfl, hro⟩
    have HRO := Lib.hid (hro.after HB3.out)
    clear hro
    go_wp2_with fail
    go_ret2
    exact HRO.out
set_option maxHeartbeats 2000000 in
set_option maxRecDepth 100000 in
theorem ref_not_no {a : Ob} {B c : Nat} {w : World} (ha : At10 w B 0 a) (ht : isTruB a = false) (hn : isIntB a = false) : Calls Tryd.prog 12 #[.string ⟨#[110, 111, 116]⟩, .slice (some ⟨B, 0, none⟩) 1 c] w fun e w' => RefO w (notO a) e w' := by
    have e0 : notO a = noO 16 := by unfold notO bitO; rw [if_neg (by rw [ht, hn]; simp)]
    rw [e0]
    clear e0
    have hTa := refTru_at a
    have hNa := refInt_at a
    rw [hn] at hNa
    rw [ht] at hTa
    clear ht hn
    obtain ⟨a0, a1, a2, a3, a4, a5, a6, a7, a8, a9⟩ := ha
    simp only [Nat.zero_add] at *
    have hlt := World.block_lt_of_cell? w _ a0
    obtain ⟨ka, xa, ca, na, sa, ra, fa, la⟩ := a
    unfold Ob.vl at *
    simp only at *
    go_enter Tryd.func12, Tryd.ntmps12
    go_wp2_with fail
    refine (hTa _).mono ?_; rintro e w1 ⟨rfl, hb1⟩
    have p10 := rule hb1 (w.heap.size) (by simp <;> omega)
    have HB1 := Lib.hid (bthen (below1 _ _ ) hb1)
    have hz1 : w.heap.size < w1.heap.size := by have := hb1.size; simp at this; omega
    clear hb1
    go_wp2_with fail
    refine (hNa _).mono ?_; rintro e w2 ⟨rfl, hb2⟩
    have p20 := rule hb2 (w.heap.size) (by omega)
    have HB2 := Lib.hid (bthen HB1.out hb2)
    have hz2 : w.heap.size < w2.heap.size := by have := hb2.size; omega
    clear hb2
    go_wp2_with fail
    go_ret2
    exact RefO.err (by decide) HB2.out
theorem ref_not {a : Ob} {B c : Nat} {w : World} (ha : At10 w B 0 a) : Calls Tryd.prog 12 #[.string ⟨#[110, 111, 116]⟩, .slice (some ⟨B, 0, none⟩) 1 c] w fun e w' => RefO w (notO a) e w' := by
  cases ht : isTruB a
  · cases hn : isIntB a
    · exact ref_not_no ha ht hn
    · exact ref_not_int ha hn
  · exact ref_not_tru ha ht
end Ari
end Go.Proofs.YtgbpldfcahajeaaDoor
