/-
  Less, Equal; the law's own helpers answers and val; what a number is to the document.
-/
import Derived.Test.YtgbpldfcahajeaaDoorAriDo
namespace Go.Proofs.YtgbpldfcahajeaaDoor
open Go.RowKit
open Fx
namespace Ari
def lessB (a b : Ob) : Bool := isNumB a && isNumB b && decide (valI a < valI b)
def equalB (a b : Ob) : Bool := isNumB a && isNumB b && (valI a == valI b)
set_option maxRecDepth 100000 in
theorem less_at (a b : Ob) (w : World) : Calls Tryd.prog 13 #[a.val, b.val] w fun e w' => e = .returned (.tuple #[.bool (lessB a b), .bool (isNumB a && isNumB b)]) ∧ Below w.heap.size w w' := by
  have hC := cmp_any clo_lt a b
  unfold lessB
  generalize (isNumB a && isNumB b && decide (valI a < valI b)) = x at *
  generalize (isNumB a && isNumB b) = y at *
  obtain ⟨ka, xa, ca, na, sa, ra, fa, la⟩ := a
  obtain ⟨kb, xb, cb, nb, sb, rb, fb, lb⟩ := b
  unfold Ob.val at *
  simp only at *
  go_enter Tryd.func13, Tryd.ntmps13
  go_wp2_with fail
  refine (hC _).mono ?_; rintro e w1 ⟨rfl, hb1⟩
  go_wp2_with fail
  go_ret2
  exact ⟨rfl, bthen (below2 _ _ _) hb1⟩
set_option maxRecDepth 100000 in
theorem equal_at (a b : Ob) (w : World) : Calls Tryd.prog 14 #[a.val, b.val] w fun e w' => e = .returned (.tuple #[.bool (equalB a b), .bool (isNumB a && isNumB b)]) ∧ Below w.heap.size w w' := by
  have hC := cmp_any clo_eq a b
  unfold equalB
  generalize (isNumB a && isNumB b && (valI a == valI b)) = x at *
  generalize (isNumB a && isNumB b) = y at *
  obtain ⟨ka, xa, ca, na, sa, ra, fa, la⟩ := a
  obtain ⟨kb, xb, cb, nb, sb, rb, fb, lb⟩ := b
  unfold Ob.val at *
  simp only at *
  go_enter Tryd.func14, Tryd.ntmps14
  go_wp2_with fail
  refine (hC _).mono ?_; rintro e w1 ⟨rfl, hb1⟩
  go_wp2_with fail
  go_ret2
  exact ⟨rfl, bthen (below2 _ _ _) hb1⟩
theorem results_vl1 {fn : Func} {i : Nat} (hfn : fn.results = #[.cell i 35]) (tmps : Array Value) (W : World) (B : Nat) {c0 c1 c2 c3 c4 c5 c6 c7 c8 c9 : Value} {t : TypeId} (hp : tmps.getD i undef = .pointer (some ⟨B, 0, none⟩)) (h : W.heap[B]? = some (.cells #[c0, c1, c2, c3, c4, c5, c6, c7, c8, c9] t (0, 0))) :
    (results fn tmps).run Tryd.prog W = .ok (.agg #[c0, c1, c2, c3, c4, c5, c6, c7, c8, c9]) W := by
  have h0 : W.cell? ⟨B, 0, none⟩ = some c0 := blk_cell h 0
  have h1 : W.cell? ⟨B, 1, none⟩ = some c1 := blk_cell h 1
  have h2 : W.cell? ⟨B, 2, none⟩ = some c2 := blk_cell h 2
  have h3 : W.cell? ⟨B, 3, none⟩ = some c3 := blk_cell h 3
  have h4 : W.cell? ⟨B, 4, none⟩ = some c4 := blk_cell h 4
  have h5 : W.cell? ⟨B, 5, none⟩ = some c5 := blk_cell h 5
  have h6 : W.cell? ⟨B, 6, none⟩ = some c6 := blk_cell h 6
  have h7 : W.cell? ⟨B, 7, none⟩ = some c7 := blk_cell h 7
  have h8 : W.cell? ⟨B, 8, none⟩ = some c8 := blk_cell h 8
  have h9 : W.cell? ⟨B, 9, none⟩ = some c9 := blk_cell h 9
  have hp2 : tmps[i]?.getD undef = .pointer (some ⟨B, 0, none⟩) := by rw [← hp]; simp
  simp [results, hfn, go_sem, hp2, h0, h1, h2, h3, h4, h5, h6, h7, h8, h9]
set_option maxRecDepth 100000 in
theorem val_at (a : Ob) (w : World) : Calls Tryd.prog 11 #[a.val] w fun e w' => e = .returned a.vl ∧ Below w.heap.size w w' := by
  obtain ⟨ka, xa, ca, na, sa, ra, fa, la⟩ := a
  unfold Ob.val Ob.vl
  simp only
  go_enter Tryd.func11, Tryd.ntmps11
  go_wp2_with fail
  refine bodyPost_ret (results_vl1 Tryd.results11 _ _ (w.heap.size + 1) rfl (alloc_at ?_)) rfl ⟨rfl, ?_⟩
  · simp
  · exact below2 _ _ _
set_option maxRecDepth 100000 in
theorem refNum_at (a : Ob) (w : World) : Calls Tryd.prog 15 #[a.vl] w fun e w' => e = .returned (.bool (isNumB a)) ∧ Below w.heap.size w w' := by
  unfold isNumB
  have hF := refFits_any a.n
  generalize fits a.n = z at *
  obtain ⟨ka, xa, ca, na, sa, ra, fa, la⟩ := a
  unfold Ob.vl
  simp only at *
  cases h1 : (ka == 1) <;> cases h2 : (ka == 2)
  all_goals
    go_enter Tryd.func15, Tryd.ntmps15
    go_wp2_with (go_at_call 38; refine (hF _).mono ?_; rintro e w1 ⟨rfl, rfl⟩)
    go_ret
    exact ⟨by simp, below1 _ _⟩
theorem at8_two (w : World) (a b : Ob) : At8 (w.alloc (.cells #[.int .i64 a.kind, .bool a.exec, .int .i64 a.acc, .int .i64 a.n, .string a.name, .int .i64 a.ref, .int .i64 a.frm, .int .i64 a.len, .int .i64 b.kind, .bool b.exec, .int .i64 b.acc, .int .i64 b.n, .string b.name, .int .i64 b.ref, .int .i64 b.frm, .int .i64 b.len] 38)) w.heap.size 0 a ∧
    At8 (w.alloc (.cells #[.int .i64 a.kind, .bool a.exec, .int .i64 a.acc, .int .i64 a.n, .string a.name, .int .i64 a.ref, .int .i64 a.frm, .int .i64 a.len, .int .i64 b.kind, .bool b.exec, .int .i64 b.acc, .int .i64 b.n, .string b.name, .int .i64 b.ref, .int .i64 b.frm, .int .i64 b.len] 38)) w.heap.size 8 b := by
  have h := fun j => blk_cell (heap_alloc_new w (.cells #[.int .i64 a.kind, .bool a.exec, .int .i64 a.acc, .int .i64 a.n, .string a.name, .int .i64 a.ref, .int .i64 a.frm, .int .i64 a.len, .int .i64 b.kind, .bool b.exec, .int .i64 b.acc, .int .i64 b.n, .string b.name, .int .i64 b.ref, .int .i64 b.frm, .int .i64 b.len] 38)) j
  exact ⟨⟨h 0, h 1, h 2, h 3, h 4, h 5, h 6, h 7⟩, ⟨h 8, h 9, h 10, h 11, h 12, h 13, h 14, h 15⟩⟩
theorem at8_one (w : World) (a : Ob) : At8 (w.alloc (.cells #[.int .i64 a.kind, .bool a.exec, .int .i64 a.acc, .int .i64 a.n, .string a.name, .int .i64 a.ref, .int .i64 a.frm, .int .i64 a.len] 38)) w.heap.size 0 a := by
  have h := fun j => blk_cell (heap_alloc_new w (.cells #[.int .i64 a.kind, .bool a.exec, .int .i64 a.acc, .int .i64 a.n, .string a.name, .int .i64 a.ref, .int .i64 a.frm, .int .i64 a.len] 38)) j
  exact ⟨h 0, h 1, h 2, h 3, h 4, h 5, h 6, h 7⟩
theorem add_23 : numO (fun x y => x + y) addV addE (mk 1 2) (mk 1 3) = ⟨1, 5, 0⟩ := by
  unfold numO
  rw [if_pos ⟨by decide, by decide⟩]
  rfl
set_option maxRecDepth 100000 in
theorem answers_at (w : World) : Calls Tryd.prog 8 #[] w fun e w' => e = .returned (.bool true) ∧ Below w.heap.size w w' := by
  have hT := two_add (mk 1 2) (mk 1 3)
  rw [add_23] at hT
  go_enter Tryd.func8, Tryd.ntmps8
  go_wp2_with fail
  refine (do_two hT (at8_two w (mk 1 2) (mk 1 3)).1 (at8_two w (mk 1 2) (mk 1 3)).2).mono ?_
  rintro e w1 hD
  obtain ⟨bk, hbk, rfl, hcs⟩ := hD.ok rfl
  have c3 := blk_cell hcs 3
  have HB := Lib.hid (bthen (below1 _ _) hD.below)
  clear hD hcs hT
  simp at c3
  go_wp2_with fail
  go_ret
  exact ⟨rfl, HB.out⟩
end Ari
end Go.Proofs.YtgbpldfcahajeaaDoor
