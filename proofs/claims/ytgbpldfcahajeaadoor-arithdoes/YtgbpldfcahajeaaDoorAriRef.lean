/-
  The document's own small functions: Small, isInt, IsTruth, Whole, Real, Truth, one, gives, value, AsReal, logic.
-/
import Derived.Test.YtgbpldfcahajeaaDoorAriUn
import Derived.Test.YtgbpldfcahajeaaDoorAriLaw
namespace Go.Proofs.YtgbpldfcahajeaaDoor
open Go.RowKit
open Fx
namespace Ari
/-- what the document's own Arith leaves -/
structure RefO (w : World) (r : Out) (e : Ending) (w' : World) : Prop where
  ok : r.e = 0 → ∃ b, w.heap.size ≤ b ∧ e = .returned (.tuple #[.slice (some ⟨b, 0, none⟩) 1 1, .int .i64 0]) ∧ w'.heap[b]? = some (.cells #[.int .i64 r.k, .bool false, .int .i64 0, .int .i64 r.n, .string ⟨#[]⟩, .pointer none, .pointer none, .pointer none, .int .i64 0, .int .i64 0] 35 (0, 0))
  no : r.e ≠ 0 → e = .returned (.tuple #[.slice none 0 0, .int .i64 r.e])
  below : Below w.heap.size w w'
theorem RefO.after {w v w' : World} {r : Out} {e : Ending} (h : RefO v r e w') (hb : Below w.heap.size w v) : RefO w r e w' :=
  ⟨fun h0 => by obtain ⟨b, h1, h2, h3⟩ := h.ok h0; exact ⟨b, Nat.le_trans hb.size h1, h2, h3⟩, h.no, bthen hb h.below⟩
theorem RefO.err {w w' : World} {e0 : Int} (h : e0 ≠ 0) (hb : Below w.heap.size w w') : RefO w (noO e0) (.returned (.tuple #[.slice none 0 0, .int .i64 e0])) w' :=
  ⟨fun e => absurd e h, fun _ => rfl, hb⟩
theorem refWhole_at (n : Int) (w : World) : Calls Tryd.prog 22 #[.int .i64 n] w fun e w' => e = .returned (mk 1 n).vl ∧ Below w.heap.size w w' := by
  unfold mk Ob.vl
  go_enter Tryd.func22, Tryd.ntmps22
  go_wp2_with fail
  exact bodyPost_ret (results_vl1 Tryd.results22 _ _ w.heap.size rfl (heap_alloc_new w _)) rfl ⟨rfl, below1 _ _⟩
theorem refReal_at (n : Int) (w : World) : Calls Tryd.prog 78 #[.int .i64 n] w fun e w' => e = .returned (mk 2 n).vl ∧ Below w.heap.size w w' := by
  unfold mk Ob.vl
  go_enter Tryd.func78, Tryd.ntmps78
  go_wp2_with fail
  exact bodyPost_ret (results_vl1 Tryd.results78 _ _ w.heap.size rfl (heap_alloc_new w _)) rfl ⟨rfl, below1 _ _⟩
theorem refTruth_at (c : Bool) (w : World) : Calls Tryd.prog 20 #[.bool c] w fun e w' => e = .returned (mk 3 (if c = true then 1 else 0)).vl ∧ Below w.heap.size w w' := by
  unfold mk Ob.vl
  cases c
  all_goals
    simp only [if_true, Bool.false_eq_true, if_false]
    go_enter Tryd.func20, Tryd.ntmps20
    go_wp2_with fail
    exact bodyPost_ret (results_vl1 Tryd.results20 _ _ w.heap.size rfl (heap_alloc_new w _)) rfl ⟨rfl, below1 _ _⟩
set_option maxRecDepth 100000 in
theorem refOne_at (k n : Int) (w : World) : Calls Tryd.prog 19 #[(mk k n).vl] w fun e w' => ∃ b, w.heap.size ≤ b ∧ e = .returned (.tuple #[.slice (some ⟨b, 0, none⟩) 1 1, .int .i64 0]) ∧ RefO w (okO k n) (.returned (.tuple #[.slice (some ⟨b, 0, none⟩) 1 1, .int .i64 0])) w' := by
  unfold mk Ob.vl
  go_enter Tryd.func19, Tryd.ntmps19
  go_wp2_with fail
  go_ret2
  exact ⟨w.heap.size + 1, by omega, rfl, fun _ => ⟨w.heap.size + 1, by omega, rfl, alloc_at (by simp)⟩, fun h => absurd rfl h, below2 _ _ _⟩
set_option maxRecDepth 100000 in
theorem refGives_ok (n : Int) (w : World) : Calls Tryd.prog 30 #[.int .i64 n, .int .i64 0] w fun e w' => ∃ b, w.heap.size ≤ b ∧ e = .returned (.tuple #[.slice (some ⟨b, 0, none⟩) 1 1, .int .i64 0]) ∧ RefO w (okO 2 n) (.returned (.tuple #[.slice (some ⟨b, 0, none⟩) 1 1, .int .i64 0])) w' := by
  have hR := fun W => refReal_at n W
  unfold mk Ob.vl at hR
  go_enter Tryd.func30, Tryd.ntmps30
  go_wp2_with fail
  refine (hR _).mono ?_; rintro e w1 ⟨rfl, hb1⟩
  have HB := Lib.hid hb1
  clear hb1 hR
  go_wp2_with fail
  go_ret2
  exact ⟨w1.heap.size, HB.out.size, rfl, fun _ => ⟨w1.heap.size, HB.out.size, rfl, heap_alloc_new w1 _⟩, fun h => absurd rfl h, bthen HB.out (below1 _ _)⟩
theorem refGives_no (n e0 : Int) (h : e0 ≠ 0) (w : World) : Calls Tryd.prog 30 #[.int .i64 n, .int .i64 e0] w fun e w' => e = .returned (.tuple #[.slice none 0 0, .int .i64 e0]) ∧ w = w' := by
  have h' : (e0 == 0) = false := by simpa using h
  go_enter Tryd.func30, Tryd.ntmps30
  go_wp2_with fail
  go_ret2
  exact ⟨rfl, rfl⟩
theorem refSmall_at (n : Int) (w : World) : Calls Tryd.prog 28 #[.int .i64 n] w fun e w' => e = .returned (.bool (fits n)) ∧ w = w' := by
  unfold fits
  by_cases h1 : -2147483648 ≤ n
  · go_enter Tryd.func28, Tryd.ntmps28
    go_wp2
    go_ret
    exact ⟨by simp [h1], rfl⟩
  · go_enter Tryd.func28, Tryd.ntmps28
    go_wp2
    go_ret
    exact ⟨by simp; omega, rfl⟩
set_option maxRecDepth 100000 in
theorem refInt_at (a : Ob) (w : World) : Calls Tryd.prog 21 #[a.vl] w fun e w' => e = .returned (.bool (isIntB a)) ∧ Below w.heap.size w w' := by
  have hN := refNum_at a
  have e0 : isIntB a = (a.kind == 1 && isNumB a) := by
    unfold isIntB isNumB; cases a.kind == 1 <;> simp
  rw [e0]
  generalize isNumB a = z at *
  clear e0
  obtain ⟨ka, xa, ca, na, sa, ra, fa, la⟩ := a
  unfold Ob.vl at *
  simp only at *
  cases h : (ka == 1)
  · go_enter Tryd.func21, Tryd.ntmps21
    go_wp2_with fail
    go_ret
    exact ⟨by simp, below1 _ _⟩
  · go_enter Tryd.func21, Tryd.ntmps21
    go_wp2_with fail
    refine (hN _).mono ?_; rintro e w1 ⟨rfl, hb1⟩
    go_wp2_with fail
    go_ret
    exact ⟨by simp, bthen (below1 _ _) hb1⟩
set_option maxRecDepth 100000 in
theorem refTru_at (a : Ob) (w : World) : Calls Tryd.prog 18 #[a.vl] w fun e w' => e = .returned (.bool (isTruB a)) ∧ Below w.heap.size w w' := by
  unfold isTruB
  obtain ⟨kd, ex, ac, n, nm, rf, fr, ln⟩ := a
  unfold Ob.vl
  simp only
  cases hk : (kd == 3) <;> cases h0 : (n == 0) <;> cases h1 : (n == 1)
  all_goals
    go_enter Tryd.func18, Tryd.ntmps18
    go_wp2
    go_ret
    exact ⟨by simp_all, below1 w _⟩
set_option maxRecDepth 100000 in
theorem refValue_at (o : Ob) (w : World) (h : isNumB o = true) : Calls Tryd.prog 27 #[o.vl] w fun e w' => e = .returned (.int .i64 (valI o)) ∧ Below w.heap.size w w' := by
  obtain ⟨hk, h1, h2⟩ := (isNum_iff o).1 h
  clear h
  unfold valI
  obtain ⟨kd, ex, ac, n, nm, rf, fr, ln⟩ := o
  unfold Ob.vl
  simp only at *
  by_cases h : kd = 1
  · rw [if_pos h]
    subst h
    clear hk
    go_enter Tryd.func27, Tryd.ntmps27
    go_wp2
    go_ret
    exact ⟨rfl, below1 w _⟩
  · rw [if_neg h]
    have hk' : (kd == 1) = false := by simpa using h
    clear hk h
    go_enter Tryd.func27, Tryd.ntmps27
    go_wp2
    go_ret
    exact ⟨rfl, below1 w _⟩
set_option maxRecDepth 100000 in
theorem refAs_at (o : Ob) (w : World) (h : isNumB o = true) : Calls Tryd.prog 29 #[o.vl] w fun e w' => e = .returned (.tuple #[.int .i64 (asV o), .int .i64 (asE o)]) ∧ Below w.heap.size w w' := by
  unfold asV asE
  rw [if_pos h, if_pos h]
  clear h
  obtain ⟨kd, ex, ac, n, nm, rf, fr, ln⟩ := o
  unfold Ob.vl
  simp only
  by_cases hk : kd = 1
  · subst hk
    simp only [if_true]
    have hF := refFromInt_any n
    generalize frV n = x at *
    generalize frE n = y at *
    go_enter Tryd.func29, Tryd.ntmps29
    go_wp2_with fail
    refine (hF _).mono ?_; rintro e w2 ⟨rfl, rfl⟩
    go_wp2_with fail
    go_ret2
    exact ⟨rfl, below1 _ _⟩
  · rw [if_neg hk, if_neg hk]
    have hk' : (kd == 1) = false := by simpa using hk
    clear hk
    go_enter Tryd.func29, Tryd.ntmps29
    go_wp2_with fail
    go_ret2
    exact ⟨rfl, below1 _ _⟩
end Ari
end Go.Proofs.YtgbpldfcahajeaaDoor
