/-
  The small makers of package arith: whole, made, truth, asReal; what an operator's outcome is.
-/
import Derived.Test.YtgbpldfcahajeaaDoorAriCells
namespace Go.Proofs.YtgbpldfcahajeaaDoor
open Go.RowKit
open Fx
namespace Ari
/-- an outcome: an object of that kind and number, or an error -/
structure Out where
  k : Int
  n : Int
  e : Int
def okO (k n : Int) : Out := ⟨k, n, 0⟩
def noO (e : Int) : Out := ⟨0, 0, e⟩
/-- as the program's inner functions answer it -/
def Out.val (r : Out) : Value := .tuple #[.agg #[.int .i64 r.k, .bool false, .int .i64 0, .int .i64 r.n, .string ⟨#[]⟩, .int .i64 0, .int .i64 0, .int .i64 0], .int .i64 r.e]
/-- a number with its error, as an object of kind k -/
def madeO (k n e : Int) : Out := if e = 0 then okO k n else noO e
def truO (h ok : Bool) : Out := if ok = true then okO 3 (if h = true then 1 else 0) else noO 16
/-- a null in block b -/
def Nul (w : World) (b : Nat) : Prop := w.heap[b]? = some (.cells #[.int .i64 0, .bool false, .int .i64 0, .int .i64 0, .string ⟨#[]⟩, .int .i64 0, .int .i64 0, .int .i64 0] 38 (0, 0))
theorem Nul.below {w w' : World} {b : Nat} (h : Nul w b) (hb : Below w.heap.size w w') : Nul w' b := (hb.block _ (Array.getElem?_eq_some_iff.1 h).1).trans h
theorem whole_any (n : Int) (w : World) : Calls Tryd.prog 87 #[.int .i64 n] w fun e w' => e = .returned (mk 1 n).val ∧ Below w.heap.size w w' := by
  unfold mk Ob.val
  go_enter Tryd.func87, Tryd.ntmps87
  go_wp2
  exact bodyPost_ret (results_ob1 Tryd.results87 _ _ w.heap.size rfl (heap_alloc_new w _)) rfl ⟨rfl, below1 _ _⟩
theorem made_any (k n e0 : Int) (w : World) : Calls Tryd.prog 88 #[.int .i64 k, .int .i64 n, .int .i64 e0] w fun e w' => e = .returned (madeO k n e0).val ∧ Below w.heap.size w w' := by
  unfold madeO
  by_cases h : e0 = 0
  · subst h
    rw [if_pos rfl]
    unfold okO Out.val
    go_enter Tryd.func88, Tryd.ntmps88
    go_wp2
    exact bodyPost_ret (results_ob2 Tryd.results88 _ _ w.heap.size rfl rfl (heap_alloc_new w _)) rfl ⟨rfl, below1 _ _⟩
  · rw [if_neg h]
    have he' : (e0 == 0) = false := by simpa using h
    unfold noO Out.val
    go_enter Tryd.func88, Tryd.ntmps88
    go_wp2
    exact bodyPost_ret (results_ob2 Tryd.results88 _ _ w.heap.size rfl rfl (heap_alloc_new w _)) rfl ⟨rfl, below1 _ _⟩
theorem truth_any (h ok : Bool) (w : World) : Calls Tryd.prog 69 #[.bool h, .bool ok] w fun e w' => e = .returned (truO h ok).val ∧ Below w.heap.size w w' := by
  unfold truO okO noO Out.val
  cases ok <;> cases h
  all_goals
    simp only [if_true, Bool.false_eq_true, if_false]
    go_enter Tryd.func69, Tryd.ntmps69
    go_wp2
    exact bodyPost_ret (results_ob2 Tryd.results69 _ _ w.heap.size rfl rfl (heap_alloc_new w _)) rfl ⟨rfl, below1 _ _⟩
theorem asReal_any (o : Ob) (w : World) : Calls Tryd.prog 94 #[o.val] w fun e w' => e = .returned (.tuple #[.int .i64 (asV o), .int .i64 (asE o)]) ∧ Below w.heap.size w w' := by
  have hN := isNum_any o
  unfold asV asE
  cases h : isNumB o
  · rw [h] at hN
    simp only [Bool.false_eq_true, if_false]
    clear h
    unfold Ob.val at *
    go_enter Tryd.func94, Tryd.ntmps94
    go_wp2_with fail
    refine (hN _).mono ?_; rintro e w1 ⟨rfl, hb1⟩
    go_wp2_with fail
    go_ret2
    exact ⟨rfl, bthen (below1 _ _) hb1⟩
  · rw [h] at hN
    simp only [if_true]
    clear h
    obtain ⟨kd, ex, ac, n, nm, rf, fr, ln⟩ := o
    unfold Ob.val at *
    simp only at *
    by_cases hk : kd = 1
    · subst hk
      simp only [if_true]
      have hF := fixFromInt_any n
      generalize frV n = x at *
      generalize frE n = y at *
      go_enter Tryd.func94, Tryd.ntmps94
      go_wp2_with fail
      refine (hN _).mono ?_; rintro e w1 ⟨rfl, hb1⟩
      have r0 := rule hb1 w.heap.size (by simp)
      have HB1 := Lib.hid (bthen (below1 _ _) hb1)
      clear hb1
      go_wp2_with fail
      refine (hF _).mono ?_; rintro e w2 ⟨rfl, rfl⟩
      go_wp2_with fail
      go_ret2
      exact ⟨rfl, HB1.out⟩
    · rw [if_neg hk, if_neg hk]
      have hk' : (kd == 1) = false := by simpa using hk
      clear hk
      go_enter Tryd.func94, Tryd.ntmps94
      go_wp2_with fail
      refine (hN _).mono ?_; rintro e w1 ⟨rfl, hb1⟩
      have r0 := rule hb1 w.heap.size (by simp)
      have HB1 := Lib.hid (bthen (below1 _ _) hb1)
      clear hb1
      go_wp2_with fail
      go_ret2
      exact ⟨rfl, HB1.out⟩
end Ari
end Go.Proofs.YtgbpldfcahajeaaDoor
