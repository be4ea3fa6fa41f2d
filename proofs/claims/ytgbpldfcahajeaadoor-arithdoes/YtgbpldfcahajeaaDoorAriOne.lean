/-
  negated, size, turned; doOne at neg, abs, not (made by genone.py).
-/
import Derived.Test.YtgbpldfcahajeaaDoorAriTwo
namespace Go.Proofs.YtgbpldfcahajeaaDoor
open Go.RowKit
open Fx
namespace Ari
def negO (a : Ob) : Out := numO (fun x y => x - y) subV subE (mk 1 0) a
def absO (a : Ob) : Out := if isNumB a = true ∧ 0 ≤ a.n then okO a.kind a.n else negO a
def notO (a : Ob) : Out := bitO (fun x y => bits .xor .i64 x y) a (if a.kind = 3 then mk 3 1 else mk 1 (-1))
set_option maxHeartbeats 2000000 in
set_option maxRecDepth 100000 in
theorem neg_any (a : Ob) (w : World) : Calls Tryd.prog 39 #[a.val] w fun e w' => e = .returned (negO a).val ∧ Below w.heap.size w w' := by
    have hW := fun W => whole_any 0 W
    have hT := two_sub (mk 1 0) a
    unfold negO
    generalize numO (fun x y => x - y) subV subE (mk 1 0) a = r at *
    obtain ⟨ka, xa, ca, na, sa, ra, fa, la⟩ := a
    unfold Ob.val Out.val at *
    (try unfold mk at *)
    simp only at *
    go_enter Tryd.func39, Tryd.ntmps39
    go_wp2_with fail
    obtain ⟨w1, hw1⟩ : ∃ W, W = (w.alloc (.cells #[.int .i64 ka, .bool xa, .int .i64 ca, .int .i64 na, .string sa, .int .i64 ra, .int .i64 fa, .int .i64 la] 38)).alloc (.cells #[.int .i64 0, .bool false, .int .i64 0, .int .i64 0, .string ⟨#[]⟩, .int .i64 0, .int .i64 0, .int .i64 0] 38) := ⟨_, rfl⟩
    rw [← hw1]
    have p10 : ∀ o, w1.cell? ⟨w.heap.size, o, none⟩ = ((w.alloc (.cells #[.int .i64 ka, .bool xa, .int .i64 ca, .int .i64 na, .string sa, .int .i64 ra, .int .i64 fa, .int .i64 la] 38)).alloc (.cells #[.int .i64 0, .bool false, .int .i64 0, .int .i64 0, .string ⟨#[]⟩, .int .i64 0, .int .i64 0, .int .i64 0] 38)).cell? ⟨w.heap.size, o, none⟩ := fun o => by rw [hw1]
    have p11 : ∀ o, w1.cell? ⟨w.heap.size + 1, o, none⟩ = ((w.alloc (.cells #[.int .i64 ka, .bool xa, .int .i64 ca, .int .i64 na, .string sa, .int .i64 ra, .int .i64 fa, .int .i64 la] 38)).alloc (.cells #[.int .i64 0, .bool false, .int .i64 0, .int .i64 0, .string ⟨#[]⟩, .int .i64 0, .int .i64 0, .int .i64 0] 38)).cell? ⟨w.heap.size + 1, o, none⟩ := fun o => by rw [hw1]
    have q1 : ∀ o, w1.frozen? ⟨w.heap.size + 1, o, none⟩ = ((w.alloc (.cells #[.int .i64 ka, .bool xa, .int .i64 ca, .int .i64 na, .string sa, .int .i64 ra, .int .i64 fa, .int .i64 la] 38)).alloc (.cells #[.int .i64 0, .bool false, .int .i64 0, .int .i64 0, .string ⟨#[]⟩, .int .i64 0, .int .i64 0, .int .i64 0] 38)).frozen? ⟨w.heap.size + 1, o, none⟩ := fun o => by rw [hw1]
    have HN1 := Lib.hid (show Nul w1 (w.heap.size + 1) from by rw [hw1]; exact alloc_at (by simp))
    have HB1 := Lib.hid (show Below w.heap.size w w1 from by rw [hw1]; exact below2 _ _ _)
    have hz0 : w.heap.size < w1.heap.size := by rw [hw1]; simp <;> omega
    have hz1 : w.heap.size + 1 < w1.heap.size := by rw [hw1]; simp <;> omega
    clear hw1
    go_region_with (first | (with_reducible refine (hW _).mono ?_; rintro e w2 ⟨rfl, hb2⟩; have p20 := ruleD hb2 (w.heap.size) (by omega); have p21 := ruleD hb2 (w.heap.size + 1) (by omega); have q2 := ruleDF hb2 (w.heap.size + 1) (by omega); have HN2 := Lib.hid (HN1.out.belowD hb2); have HB2 := Lib.hid (bthenD HB1.out hb2); have hz2 : w.heap.size + 1 < w2.heap.size := (by have h0 := hb2.size; have h1 : w1.drew.heap.size = w1.heap.size := rfl; omega); clear hb2) | (with_reducible refine (hT _).mono ?_; rintro e w3 ⟨rfl, hb3⟩; have p30 := rule hb3 (w.heap.size) (by omega); have p31 := rule hb3 (w.heap.size + 1) (by omega); have q3 := ruleF hb3 (w.heap.size + 1) (by omega); have HN3 := Lib.hid (HN2.out.below hb3); have HB3 := Lib.hid (bthen HB2.out hb3); have hz3 : w.heap.size + 1 < w3.heap.size := (by have h0 := hb3.size; omega); clear hb3))
    all_goals go_wp2_with fail
    all_goals exact bodyPost_ret (results_ob2 Tryd.results39 _ _ (w.heap.size + 1) rfl rfl (put8 HN3.out _ _ _ _ _ _ _ _).blk) rfl ⟨rfl, below_put8 HB3.out (by omega) (put8 HN3.out _ _ _ _ _ _ _ _)⟩
set_option maxHeartbeats 2000000 in
set_option maxRecDepth 100000 in
theorem abs_any (a : Ob) (w : World) : Calls Tryd.prog 40 #[a.val] w fun e w' => e = .returned (absO a).val ∧ Below w.heap.size w w' := by
  have hI := isNum_any a
  have hN := neg_any a
  have hM := fun W => made_any a.kind a.n 0 W
  have e0 : madeO a.kind a.n 0 = okO a.kind a.n := rfl
  rw [e0] at hM
  clear e0
  unfold absO
  cases h : isNumB a
  · rw [if_neg (by simp)]
    rw [h] at hI
    clear h hM
    generalize negO a = r at *
    obtain ⟨ka, xa, ca, na, sa, ra, fa, la⟩ := a
    unfold Ob.val Out.val at *
    (try unfold mk at *)
    simp only at *
    go_enter Tryd.func40, Tryd.ntmps40
    go_wp2_with fail
    refine (hI _).mono ?_; rintro e w1 ⟨rfl, hb1⟩
    have p10 := rule hb1 (w.heap.size) (by simp <;> omega)
    have p11 := rule hb1 (w.heap.size + 1) (by simp <;> omega)
    have q1 := ruleF hb1 (w.heap.size + 1) (by simp <;> omega)
    have HN1 := Lib.hid (show Nul w1 (w.heap.size + 1) from Nul.below (alloc_at (by simp)) hb1)
    have HB1 := Lib.hid (bthen (below2 _ _ _ ) hb1)
    have hz1 : w.heap.size + 1 < w1.heap.size := by have := hb1.size; simp at this; omega
    clear hb1
    go_wp2_with fail
    refine (hN _).mono ?_; rintro e w2 ⟨rfl, hb2⟩
    have p20 := rule hb2 (w.heap.size) (by omega)
    have p21 := rule hb2 (w.heap.size + 1) (by omega)
    have q2 := ruleF hb2 (w.heap.size + 1) (by omega)
    have HN2 := Lib.hid (HN1.out.below hb2)
    have HB2 := Lib.hid (bthen HB1.out hb2)
    have hz2 : w.heap.size + 1 < w2.heap.size := by have := hb2.size; omega
    clear hb2
    go_wp2_with fail
    exact bodyPost_ret (results_ob2 Tryd.results40 _ _ (w.heap.size + 1) rfl rfl (put8 HN2.out _ _ _ _ _ _ _ _).blk) rfl ⟨rfl, below_put8 HB2.out (by omega) (put8 HN2.out _ _ _ _ _ _ _ _)⟩
  · rw [h] at hI
    clear h
    by_cases h0 : 0 ≤ a.n
    · rw [if_pos ⟨rfl, h0⟩]
      unfold okO at *
      obtain ⟨ka, xa, ca, na, sa, ra, fa, la⟩ := a
      unfold Ob.val Out.val at *
      (try unfold mk at *)
      simp only at *
      go_enter Tryd.func40, Tryd.ntmps40
      go_wp2_with fail
      refine (hI _).mono ?_; rintro e w1 ⟨rfl, hb1⟩
      have p10 := rule hb1 (w.heap.size) (by simp <;> omega)
      have p11 := rule hb1 (w.heap.size + 1) (by simp <;> omega)
      have q1 := ruleF hb1 (w.heap.size + 1) (by simp <;> omega)
      have HN1 := Lib.hid (show Nul w1 (w.heap.size + 1) from Nul.below (alloc_at (by simp)) hb1)
      have HB1 := Lib.hid (bthen (below2 _ _ _ ) hb1)
      have hz1 : w.heap.size + 1 < w1.heap.size := by have := hb1.size; simp at this; omega
      clear hb1
      go_wp2_with fail
      refine (hM _).mono ?_; rintro e w2 ⟨rfl, hb2⟩
      have p20 := rule hb2 (w.heap.size) (by omega)
      have p21 := rule hb2 (w.heap.size + 1) (by omega)
      have q2 := ruleF hb2 (w.heap.size + 1) (by omega)
      have HN2 := Lib.hid (HN1.out.below hb2)
      have HB2 := Lib.hid (bthen HB1.out hb2)
      have hz2 : w.heap.size + 1 < w2.heap.size := by have := hb2.size; omega
      clear hb2
      go_wp2_with fail
      exact bodyPost_ret (results_ob2 Tryd.results40 _ _ (w.heap.size + 1) rfl rfl (put8 HN2.out _ _ _ _ _ _ _ _).blk) rfl ⟨rfl, below_put8 HB2.out (by omega) (put8 HN2.out _ _ _ _ _ _ _ _)⟩
    · rw [if_neg (by simp; omega)]
      clear hM
      generalize negO a = r at *
      obtain ⟨ka, xa, ca, na, sa, ra, fa, la⟩ := a
      unfold Ob.val Out.val at *
      (try unfold mk at *)
      simp only at *
      go_enter Tryd.func40, Tryd.ntmps40
      go_wp2_with fail
      refine (hI _).mono ?_; rintro e w1 ⟨rfl, hb1⟩
      have p10 := rule hb1 (w.heap.size) (by simp <;> omega)
      have p11 := rule hb1 (w.heap.size + 1) (by simp <;> omega)
      have q1 := ruleF hb1 (w.heap.size + 1) (by simp <;> omega)
      have HN1 := Lib.hid (show Nul w1 (w.heap.size + 1) from Nul.below (alloc_at (by simp)) hb1)
      have HB1 := Lib.hid (bthen (below2 _ _ _ ) hb1)
      have hz1 : w.heap.size + 1 < w1.heap.size := by have := hb1.size; simp at this; omega
      clear hb1
      go_wp2_with fail
      refine (hN _).mono ?_; rintro e w2 ⟨rfl, hb2⟩
      have p20 := rule hb2 (w.heap.size) (by omega)
      have p21 := rule hb2 (w.heap.size + 1) (by omega)
      have q2 := ruleF hb2 (w.heap.size + 1) (by omega)
      have HN2 := Lib.hid (HN1.out.below hb2)
      have HB2 := Lib.hid (bthen HB1.out hb2)
      have hz2 : w.heap.size + 1 < w2.heap.size := by have := hb2.size; omega
      clear hb2
      go_wp2_with fail
      exact bodyPost_ret (results_ob2 Tryd.results40 _ _ (w.heap.size + 1) rfl rfl (put8 HN2.out _ _ _ _ _ _ _ _).blk) rfl ⟨rfl, below_put8 HB2.out (by omega) (put8 HN2.out _ _ _ _ _ _ _ _)⟩
set_option maxHeartbeats 2000000 in
set_option maxRecDepth 100000 in
theorem not_any (a : Ob) (w : World) : Calls Tryd.prog 51 #[a.val] w fun e w' => e = .returned (notO a).val ∧ Below w.heap.size w w' := by
  have hW := fun W => whole_any (-1) W
  unfold notO
  cases h : (a.kind == 3)
  · have hk : ¬ a.kind = 3 := by simpa using h
    rw [if_neg hk]
    have hT := two_xor a (mk 1 (-1))
    generalize bitO (fun x y => bits .xor .i64 x y) a (mk 1 (-1)) = r at *
    clear hk
    obtain ⟨ka, xa, ca, na, sa, ra, fa, la⟩ := a
    unfold Ob.val Out.val at *
    (try unfold mk at *)
    simp only at *
    go_enter Tryd.func51, Tryd.ntmps51
    go_wp2_with fail
    refine (hW _).mono ?_; rintro e w1 ⟨rfl, hb1⟩
    have p10 := rule hb1 (w.heap.size) (by simp <;> omega)
    have p11 := rule hb1 (w.heap.size + 1) (by simp <;> omega)
    have q1 := ruleF hb1 (w.heap.size + 1) (by simp <;> omega)
    have HN1 := Lib.hid (show Nul w1 (w.heap.size + 1) from Nul.below (alloc_at (by simp)) hb1)
    have HB1 := Lib.hid (bthen (below2 _ _ _) hb1)
    have hz0 : w.heap.size < w1.heap.size := by have := hb1.size; simp at this; omega
    have hz1 : w.heap.size + 1 < w1.heap.size := by have := hb1.size; simp at this; omega
    clear hb1
    go_wp2_with fail
    refine (hT _).mono ?_; rintro e w2 ⟨rfl, hb2⟩
    have p20 := ruleA hb2 (w.heap.size) (by omega)
    have p21 := ruleA hb2 (w.heap.size + 1) (by omega)
    have q2 := ruleAF hb2 (w.heap.size + 1) (by omega)
    have HN2 := Lib.hid ((HN1.out.below (below1 _ _)).below hb2)
    have HB2 := Lib.hid (bthen HB1.out (bthen (below1 _ _) hb2))
    clear hb2
    go_wp2_with fail
    exact bodyPost_ret (results_ob2 Tryd.results51 _ _ (w.heap.size + 1) rfl rfl (put8 HN2.out _ _ _ _ _ _ _ _).blk) rfl ⟨rfl, below_put8 HB2.out (by omega) (put8 HN2.out _ _ _ _ _ _ _ _)⟩
  · have hk : a.kind = 3 := by simpa using h
    rw [if_pos hk]
    have hT := two_xor a (mk 3 1)
    generalize bitO (fun x y => bits .xor .i64 x y) a (mk 3 1) = r at *
    clear hk
    obtain ⟨ka, xa, ca, na, sa, ra, fa, la⟩ := a
    unfold Ob.val Out.val at *
    (try unfold mk at *)
    simp only at *
    go_enter Tryd.func51, Tryd.ntmps51
    go_wp2_with fail
    refine (hW _).mono ?_; rintro e w1 ⟨rfl, hb1⟩
    have p10 := rule hb1 (w.heap.size) (by simp <;> omega)
    have p11 := rule hb1 (w.heap.size + 1) (by simp <;> omega)
    have q1 := ruleF hb1 (w.heap.size + 1) (by simp <;> omega)
    have HN1 := Lib.hid (show Nul w1 (w.heap.size + 1) from Nul.below (alloc_at (by simp)) hb1)
    have HB1 := Lib.hid (bthen (below2 _ _ _) hb1)
    have hz0 : w.heap.size < w1.heap.size := by have := hb1.size; simp at this; omega
    have hz1 : w.heap.size + 1 < w1.heap.size := by have := hb1.size; simp at this; omega
    clear hb1
    go_wp2_with fail
    refine (hT _).mono ?_; rintro e w2 ⟨rfl, hb2⟩
    have p20 := ruleA hb2 (w.heap.size) (by omega)
    have p21 := ruleA hb2 (w.heap.size + 1) (by omega)
    have q2 := ruleAF hb2 (w.heap.size + 1) (by omega)
    have HN2 := Lib.hid ((HN1.out.below (below1 _ _)).below hb2)
    have HB2 := Lib.hid (bthen HB1.out (bthen (below1 _ _) hb2))
    clear hb2
    go_wp2_with fail
    exact bodyPost_ret (results_ob2 Tryd.results51 _ _ (w.heap.size + 1) rfl rfl (put8 HN2.out _ _ _ _ _ _ _ _).blk) rfl ⟨rfl, below_put8 HB2.out (by omega) (put8 HN2.out _ _ _ _ _ _ _ _)⟩
set_option maxHeartbeats 2000000 in
set_option maxRecDepth 100000 in
theorem one_neg (a : Ob) (w : World) : Calls Tryd.prog 16 #[.string ⟨#[110, 101, 103]⟩, a.val] w fun e w' => e = .returned (negO a).val ∧ Below w.heap.size w w' := by
    have hC := neg_any a
    generalize negO a = r at *
    obtain ⟨ka, xa, ca, na, sa, ra, fa, la⟩ := a
    unfold Ob.val Out.val at *
    (try unfold mk at *)
    simp only at *
    go_enter Tryd.func16, Tryd.ntmps16
    go_wp2_with fail
    refine (hC _).mono ?_; rintro e w1 ⟨rfl, hb1⟩
    have p10 := rule hb1 (w.heap.size) (by simp <;> omega)
    have p11 := rule hb1 (w.heap.size + 1) (by simp <;> omega)
    have q1 := ruleF hb1 (w.heap.size + 1) (by simp <;> omega)
    have HN1 := Lib.hid (show Nul w1 (w.heap.size + 1) from Nul.below (alloc_at (by simp)) hb1)
    have HB1 := Lib.hid (bthen (below2 _ _ _ ) hb1)
    have hz1 : w.heap.size + 1 < w1.heap.size := by have := hb1.size; simp at this; omega
    clear hb1
    go_wp2_with fail
    exact bodyPost_ret (results_ob2 Tryd.results16 _ _ (w.heap.size + 1) rfl rfl (put8 HN1.out _ _ _ _ _ _ _ _).blk) rfl ⟨rfl, below_put8 HB1.out (by omega) (put8 HN1.out _ _ _ _ _ _ _ _)⟩
set_option maxHeartbeats 2000000 in
set_option maxRecDepth 100000 in
theorem one_abs (a : Ob) (w : World) : Calls Tryd.prog 16 #[.string ⟨#[97, 98, 115]⟩, a.val] w fun e w' => e = .returned (absO a).val ∧ Below w.heap.size w w' := by
    have hC := abs_any a
    generalize absO a = r at *
    obtain ⟨ka, xa, ca, na, sa, ra, fa, la⟩ := a
    unfold Ob.val Out.val at *
    (try unfold mk at *)
    simp only at *
    go_enter Tryd.func16, Tryd.ntmps16
    go_wp2_with fail
    refine (hC _).mono ?_; rintro e w1 ⟨rfl, hb1⟩
    have p10 := rule hb1 (w.heap.size) (by simp <;> omega)
    have p11 := rule hb1 (w.heap.size + 1) (by simp <;> omega)
    have q1 := ruleF hb1 (w.heap.size + 1) (by simp <;> omega)
    have HN1 := Lib.hid (show Nul w1 (w.heap.size + 1) from Nul.below (alloc_at (by simp)) hb1)
    have HB1 := Lib.hid (bthen (below2 _ _ _ ) hb1)
    have hz1 : w.heap.size + 1 < w1.heap.size := by have := hb1.size; simp at this; omega
    clear hb1
    go_wp2_with fail
    exact bodyPost_ret (results_ob2 Tryd.results16 _ _ (w.heap.size + 1) rfl rfl (put8 HN1.out _ _ _ _ _ _ _ _).blk) rfl ⟨rfl, below_put8 HB1.out (by omega) (put8 HN1.out _ _ _ _ _ _ _ _)⟩
set_option maxHeartbeats 2000000 in
set_option maxRecDepth 100000 in
theorem one_not (a : Ob) (w : World) : Calls Tryd.prog 16 #[.string ⟨#[110, 111, 116]⟩, a.val] w fun e w' => e = .returned (notO a).val ∧ Below w.heap.size w w' := by
    have hC := not_any a
    generalize notO a = r at *
    obtain ⟨ka, xa, ca, na, sa, ra, fa, la⟩ := a
    unfold Ob.val Out.val at *
    (try unfold mk at *)
    simp only at *
    go_enter Tryd.func16, Tryd.ntmps16
    go_wp2_with fail
    refine (hC _).mono ?_; rintro e w1 ⟨rfl, hb1⟩
    have p10 := rule hb1 (w.heap.size) (by simp <;> omega)
    have p11 := rule hb1 (w.heap.size + 1) (by simp <;> omega)
    have q1 := ruleF hb1 (w.heap.size + 1) (by simp <;> omega)
    have HN1 := Lib.hid (show Nul w1 (w.heap.size + 1) from Nul.below (alloc_at (by simp)) hb1)
    have HB1 := Lib.hid (bthen (below2 _ _ _ ) hb1)
    have hz1 : w.heap.size + 1 < w1.heap.size := by have := hb1.size; simp at this; omega
    clear hb1
    go_wp2_with fail
    exact bodyPost_ret (results_ob2 Tryd.results16 _ _ (w.heap.size + 1) rfl rfl (put8 HN1.out _ _ _ _ _ _ _ _).blk) rfl ⟨rfl, below_put8 HB1.out (by omega) (put8 HN1.out _ _ _ _ _ _ _ _)⟩
end Ari
end Go.Proofs.YtgbpldfcahajeaaDoor
