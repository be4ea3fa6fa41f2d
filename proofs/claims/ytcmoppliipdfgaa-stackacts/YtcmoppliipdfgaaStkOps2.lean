/-
  A stack's calls, by contracts: place, top, leave, Push.
-/
import Derived.Test.YtcmoppliipdfgaaStkOps
namespace Go.Proofs.Ytcmoppliipdfgaa
open Go.RowKit
open St Stk
/-- the cells of a stack's block -/
def SkC (w : World) (s : Nat) (v : Value) (most ov un : Int) : Prop := w.heap[s]? = some (.cells #[v, .int .i64 most, .int .i64 ov, .int .i64 un] 176 (0, 0))
theorem SkC.cells {w : World} {s : Nat} {v : Value} {most ov un : Int} (h : SkC w s v most ov un) : w.cell? ⟨s, 0, none⟩ = some v ∧ w.cell? ⟨s, 1, none⟩ = some (.int .i64 most) ∧ w.cell? ⟨s, 2, none⟩ = some (.int .i64 ov) ∧ w.cell? ⟨s, 3, none⟩ = some (.int .i64 un) ∧ ∀ j, w.frozen? ⟨s, j, none⟩ = false := by
  unfold SkC at h
  exact ⟨blk_cell h 0, blk_cell h 1, blk_cell h 2, blk_cell h 3, fun j => blk_free h j⟩
theorem SkC.below {w w' : World} {s : Nat} {v : Value} {most ov un : Int} (h : SkC w s v most ov un) (hb : Below w.heap.size w w') : SkC w' s v most ov un := (hb.block s (Array.getElem?_eq_some_iff.1 h).1).trans h
section
variable {w : World} {s n c : Nat} {a : Option Addr} {most ov un : Int}
set_option maxRecDepth 100000
theorem place_nil (i : Int) : Calls Try.prog 93 #[.pointer none, .int .i64 i] w fun e w' => e = .returned (.tuple #[.pointer none, .int .i64 21]) ∧ w' = w := by
  go_enter Try.func93, Try.ntmps93
  go_wp2_with fail
  exact bodyPost_ret (v := .tuple #[.pointer none, .int .i64 21]) (by simp [results, Try.results93, go_sem]) rfl ⟨rfl, rfl⟩
theorem place_neg {i : Int} (hi : i < 0) : Calls Try.prog 93 #[.pointer (some ⟨s, 0, none⟩), .int .i64 i] w fun e w' => e = .returned (.tuple #[.pointer none, .int .i64 11]) ∧ w' = w := by
  go_enter Try.func93, Try.ntmps93
  go_wp2_with fail
  exact bodyPost_ret (v := .tuple #[.pointer none, .int .i64 11]) (by simp [results, Try.results93, go_sem]) rfl ⟨rfl, rfl⟩
theorem place_under (h : SkC w s (.slice a n c) most ov un) {i : Int} (h0 : 0 ≤ i) (hi : (n : Int) ≤ i) : Calls Try.prog 93 #[.pointer (some ⟨s, 0, none⟩), .int .i64 i] w fun e w' => e = .returned (.tuple #[.pointer none, .int .i64 un]) ∧ ∃ q, w' = w.drewN q := by
  obtain ⟨c0, c1, c2, c3, hf⟩ := h.cells
  clear h
  go_enter Try.func93, Try.ntmps93
  go_wp2_with fail
  go_region
  all_goals go_wp2_with fail
  all_goals exact bodyPost_ret (v := .tuple #[.pointer none, .int .i64 un]) (by simp [results, Try.results93, go_sem]) rfl ⟨rfl, 1, rfl⟩
theorem place_ok {g : Nat} (h : SkC w s (.slice (some ⟨g, 0, none⟩) n c) most ov un) (hn : n ≤ 50000) {i : Nat} (hi : i < n) : Calls Try.prog 93 #[.pointer (some ⟨s, 0, none⟩), .int .i64 i] w fun e w' => e = .returned (.tuple #[.pointer (some ⟨g, (n - 1 - i) * 8, none⟩), .int .i64 0]) ∧ ∃ q, w' = w.drewN q := by
  obtain ⟨c0, c1, c2, c3, hf⟩ := h.cells
  obtain ⟨m, hm⟩ : ∃ m : Nat, m = n - 1 - i := ⟨_, rfl⟩
  have e1 : (n : Int) - 1 - i = m := by omega
  have hmn : m < n := by omega
  rw [← hm]
  clear h hm
  go_enter Try.func93, Try.ntmps93
  go_wp2_with fail
  go_region
  all_goals go_wp2_with fail
  all_goals exact bodyPost_ret (v := .tuple #[.pointer (some ⟨g, m * 8, none⟩), .int .i64 0]) (by simp [results, Try.results93, go_sem]) rfl ⟨rfl, 1, rfl⟩
theorem top_nil (i : Int) : Calls Try.prog 95 #[.pointer none, .int .i64 i] w fun e w' => e = .returned (.tuple #[.slice none 0 0, .bool false, .int .i64 21]) ∧ w' = w := by
  go_enter Try.func95, Try.ntmps95
  go_wp2_with fail
  exact bodyPost_ret (v := .tuple #[.slice none 0 0, .bool false, .int .i64 21]) (by simp [results, Try.results95, go_sem]) rfl ⟨rfl, rfl⟩
theorem top_neg {i : Int} (hi : i < 0) : Calls Try.prog 95 #[.pointer (some ⟨s, 0, none⟩), .int .i64 i] w fun e w' => e = .returned (.tuple #[.slice none 0 0, .bool false, .int .i64 11]) ∧ w' = w := by
  go_enter Try.func95, Try.ntmps95
  go_wp2_with fail
  exact bodyPost_ret (v := .tuple #[.slice none 0 0, .bool false, .int .i64 11]) (by simp [results, Try.results95, go_sem]) rfl ⟨rfl, rfl⟩
theorem top_under (h : SkC w s (.slice a n c) most ov un) {i : Int} (h0 : 0 ≤ i) (hi : (n : Int) < i) : Calls Try.prog 95 #[.pointer (some ⟨s, 0, none⟩), .int .i64 i] w fun e w' => e = .returned (.tuple #[.slice none 0 0, .bool false, .int .i64 un]) ∧ ∃ q, w' = w.drewN q := by
  obtain ⟨c0, c1, c2, c3, hf⟩ := h.cells
  clear h
  go_enter Try.func95, Try.ntmps95
  go_wp2_with fail
  go_region
  all_goals go_wp2_with fail
  all_goals exact bodyPost_ret (v := .tuple #[.slice none 0 0, .bool false, .int .i64 un]) (by simp [results, Try.results95, go_sem]) rfl ⟨rfl, 1, rfl⟩
theorem top_none (h : SkC w s (.slice none 0 0) most ov un) : Calls Try.prog 95 #[.pointer (some ⟨s, 0, none⟩), .int .i64 0] w fun e w' => e = .returned (.tuple #[.slice none 0 0, .bool true, .int .i64 0]) ∧ ∃ q, w' = w.drewN q := by
  obtain ⟨c0, c1, c2, c3, hf⟩ := h.cells
  clear h
  go_enter Try.func95, Try.ntmps95
  go_wp2_with fail
  go_region
  all_goals go_wp2_with fail
  all_goals exact bodyPost_ret (v := .tuple #[.slice none 0 0, .bool true, .int .i64 0]) (by simp [results, Try.results95, go_sem]) rfl ⟨rfl, 1, rfl⟩
/-- the n top ones where they are -/
def TopP (g n i : Nat) (w : World) (e : Ending) (w' : World) : Prop := (∃ of c2, (i = 0 ∨ of = (n - i) * 8) ∧ i ≤ c2 ∧ e = .returned (.tuple #[.slice (some ⟨g, of, none⟩) i c2, .bool true, .int .i64 0])) ∧ ∃ q, w' = w.drewN q
theorem top_ok {g : Nat} (h : SkC w s (.slice (some ⟨g, 0, none⟩) n c) most ov un) (hc : n ≤ c) (hn : n ≤ 50000) {i : Nat} (hi : i ≤ n) : Calls Try.prog 95 #[.pointer (some ⟨s, 0, none⟩), .int .i64 i] w (TopP g n i w) := by
  obtain ⟨c0, c1, c2, c3, hf⟩ := h.cells
  obtain ⟨m, hm⟩ : ∃ m : Nat, m = n - i := ⟨_, rfl⟩
  have e1 : (n : Int) - i = m := by omega
  have hmn : m ≤ n := by omega
  have HM := Lib.hid (show n - m = i by omega)
  have HI := Lib.hid (And.intro hi hc)
  have HMM := Lib.hid hm
  clear h hm hi
  go_enter Try.func95, Try.ntmps95
  go_wp2_with fail
  go_region
  all_goals go_wp2_with fail
  · exact bodyPost_ret (v := .tuple #[.slice (some ⟨g, 0, none⟩) i 0, .bool true, .int .i64 0]) (by simp [results, Try.results95, go_sem, HM.out]) rfl ⟨⟨0, 0, .inl (by have := HI.out; have := HM.out; omega), by have := HI.out; have := HM.out; omega, rfl⟩, 1, rfl⟩
  · exact bodyPost_ret (v := .tuple #[.slice (some ⟨g, m * 8, none⟩) i (c - m), .bool true, .int .i64 0]) (by simp [results, Try.results95, go_sem, HM.out]) rfl ⟨⟨m * 8, c - m, .inr (by rw [HMM.out]), by have := HI.out; have := HM.out; omega, rfl⟩, 1, rfl⟩
/-- what a store into the block's first cell leaves -/
theorem skc_put {v v' : Value} (h : SkC w s v most ov un) : SkC (w.setCell ⟨s, 0, none⟩ v') s v' most ov un := blk_set h 0 v'
theorem leave_ok {g : Nat} (h : SkC w s (.slice (some ⟨g, 0, none⟩) n c) most ov un) (hc : n ≤ c) {i : Nat} (hi : i ≤ n) : Calls Try.prog 94 #[.pointer (some ⟨s, 0, none⟩), .int .i64 i] w fun e w' => e = .returned (.tuple #[]) ∧ w' = w.setCell ⟨s, 0, none⟩ (.slice (some ⟨g, 0, none⟩) i i) := by
  obtain ⟨c0, c1, c2, c3, hf⟩ := h.cells
  clear h
  go_enter Try.func94, Try.ntmps94
  go_wp2_with fail
  go_end0
  exact ⟨rfl, rfl⟩
theorem leave_none (h : SkC w s (.slice none 0 0) most ov un) : Calls Try.prog 94 #[.pointer (some ⟨s, 0, none⟩), .int .i64 0] w fun e w' => e = .returned (.tuple #[]) ∧ w' = w.setCell ⟨s, 0, none⟩ (.slice none 0 0) := by
  obtain ⟨c0, c1, c2, c3, hf⟩ := h.cells
  clear h
  go_enter Try.func94, Try.ntmps94
  go_wp2_with fail
  go_end0
  exact ⟨rfl, rfl⟩
end
end Go.Proofs.Ytcmoppliipdfgaa
