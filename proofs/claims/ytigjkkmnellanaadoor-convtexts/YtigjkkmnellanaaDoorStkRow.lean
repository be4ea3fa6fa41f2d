/-
  Rows of objects of one's own, which may have more room than they show; what an append, a clone and a copy do to such rows.
-/
import Derived.Test.YtigjkkmnellanaaDoorStoItems
import Derived.Laws.CopyOwn
import Derived.Lib.AppendZeros
namespace Go.Proofs.YtigjkkmnellanaaDoor
open Go.RowKit
open St
namespace Stk
theorem isB_le {g k n c : Nat} (hk : isB (.slice (some ⟨g, 0, none⟩) n c) k) : g ≤ k := by
  have : g = k := by simpa [isB, Value.ownBlock] using hk
  omega
theorem obs_one (l : List Ob) : ∀ u ∈ l.flatMap Ob.cells, u.oneCell' = true := by
  intro u hu
  obtain ⟨o, _, ho⟩ := List.mem_flatMap.1 hu
  simp [Ob.cells] at ho
  rcases ho with rfl | rfl | rfl | rfl | rfl | rfl | rfl | rfl <;> rfl
/-- objects that can be read at a slice's address -/
def SrcO (w : World) (a : Option Addr) (l : List Ob) : Prop := l = [] ∨ ∃ ad, a = some ad ∧ ∀ j z, (l.flatMap Ob.cells)[j]? = some z → w.cell? (ad.add j) = some z
theorem SrcO.below {w w' : World} {a : Option Addr} {l : List Ob} (h : SrcO w a l) (hb : Below w.heap.size w w') : SrcO w' a l := by
  rcases h with h | ⟨ad, e, hc⟩
  · exact .inl h
  · exact .inr ⟨ad, e, fun j z hz => (hb.cell (World.block_lt_of_cell? w _ (hc j z hz))).trans (hc j z hz)⟩
theorem SrcO.some {w : World} {ad : Addr} {l : List Ob} (h : SrcO w (some ad) l) : ∀ j z, (l.flatMap Ob.cells)[j]? = .some z → w.cell? (ad.add j) = .some z := by
  rcases h with rfl | ⟨ad', e, hx⟩
  · intro j z hz; simp at hz
  · cases e; exact hx
theorem SrcO.none {w : World} {l : List Ob} (h : SrcO w none l) : l = [] := by
  rcases h with h | ⟨ad', e, _⟩
  · exact h
  · cases e
/-- a row of objects of one's own -/
def SL (w : World) (v : Value) (l : List Ob) : Prop :=
  (v = .slice none 0 0 ∧ l = []) ∨ ∃ g cap cur, v = .slice (some ⟨g, 0, none⟩) l.length cap ∧ w.heap[g]? = some (.cells cur 35 (0, 0)) ∧ l.length ≤ cap ∧ cap ≤ maxLen ∧ cap * 8 ≤ cur.size ∧ cur.toList.take (l.length * 8) = l.flatMap Ob.cells
theorem SL.same {w w' : World} {v : Value} {l : List Ob} (h : SL w v l) (hk : ∀ k, isB v k → w'.heap[k]? = w.heap[k]?) : SL w' v l := by
  rcases h with h0 | ⟨g, cap, cur, rfl, hg, hr⟩
  · exact .inl h0
  · exact .inr ⟨g, cap, cur, rfl, (hk g rfl).trans hg, hr⟩
theorem SL.lt {w : World} {v : Value} {l : List Ob} (h : SL w v l) {k : Nat} (hk : isB v k) : k < w.heap.size := by
  rcases h with ⟨rfl, _⟩ | ⟨g, cap, cur, rfl, hg, _⟩
  · cases hk
  · have : g = k := by simpa [isB, Value.ownBlock] using hk
    subst this
    exact (Array.getElem?_eq_some_iff.1 hg).1
theorem SL.below {w w' : World} {v : Value} {l : List Ob} (h : SL w v l) (hb : Below w.heap.size w w') : SL w' v l := h.same (fun k hk => hb.block k (h.lt hk))
theorem SL.form {w : World} {v : Value} {l : List Ob} (h : SL w v l) : ∃ a c, v = .slice a l.length c ∧ (a = none → c = 0) ∧ (l.length ≤ c) := by
  rcases h with ⟨rfl, rfl⟩ | ⟨g, cap, cur, rfl, _, h1, _⟩
  · exact ⟨none, 0, rfl, fun _ => rfl, Nat.le_refl _⟩
  · exact ⟨_, cap, rfl, fun e => (by cases e), h1⟩
theorem SL.cellAt {w : World} {g cap : Nat} {l : List Ob} {n : Nat} (h : SL w (.slice (some ⟨g, 0, none⟩) n cap) l) (j : Nat) (hj : j < l.length * 8) : w.cell? ⟨g, j, none⟩ = (l.flatMap Ob.cells)[j]? := by
  rcases h with ⟨e, _⟩ | ⟨g', cap', cur, e, hg, _, _, _, ht⟩
  · cases e
  · cases e
    rw [blk_cell hg j, ← ht, List.getElem?_take, if_pos hj]
    simp
theorem SL.free {w : World} {g cap : Nat} {l : List Ob} {n : Nat} (h : SL w (.slice (some ⟨g, 0, none⟩) n cap) l) (j : Nat) : w.frozen? ⟨g, j, none⟩ = false := by
  rcases h with ⟨e, _⟩ | ⟨g', cap', cur, e, hg, _⟩
  · cases e
  · cases e
    exact blk_free hg j
theorem SL.src {w : World} {a : Option Addr} {n c : Nat} {l : List Ob} (h : SL w (.slice a n c) l) : SrcO w a l := by
  rcases h with ⟨e, e2⟩ | ⟨g, cap, cur, e, hg, h1, h2, h3, ht⟩
  · exact .inl e2
  · cases e
    refine .inr ⟨_, rfl, fun j z hz => ?_⟩
    have hj : j < l.length * 8 := by have := (List.getElem?_eq_some_iff.1 hz).1; rw [obs_len] at this; exact this
    rw [Addr.add_lit, Nat.zero_add, ← hz]
    exact SL.cellAt (.inr ⟨g, c, cur, rfl, hg, h1, h2, h3, ht⟩) j hj
theorem SL.len {w : World} {a : Option Addr} {n c : Nat} {l : List Ob} (h : SL w (.slice a n c) l) : n = l.length := by
  rcases h with ⟨e, e2⟩ | ⟨g, cap, cur, e, _⟩
  · cases e; subst e2; rfl
  · cases e; rfl
theorem SL.nil (w : World) : SL w (.slice none 0 0) [] := .inl ⟨rfl, rfl⟩
theorem grown_sl {w : World} {old : Nat} {xs ys : List Ob} {z : Value} (hz : z.cells.size = 8) (hm : xs.length + ys.length ≤ 100000) :
    SL (w.drew.alloc (.cells ((xs.flatMap Ob.cells).toArray ++ (ys.flatMap Ob.cells).toArray ++ Builtin.zeroCells z.cells (grownCap w (xs.length + ys.length) old 35 - (xs.length + ys.length))) 35)) (.slice (some ⟨w.heap.size, 0, none⟩) (xs.length + ys.length) (grownCap w (xs.length + ys.length) old 35)) (xs ++ ys) := by
  have hge := grownCap_ge w (xs.length + ys.length) old 35
  have hcm := grownCap_le_maxLen w (xs.length + ys.length) old 35 (by unfold maxLen; omega)
  refine .inr ⟨w.heap.size, _, _, by rw [List.length_append], heap_alloc_new w.drew _, by rw [List.length_append]; exact hge, hcm, ?_, ?_⟩
  · simp only [Array.size_append, List.size_toArray, size_zeroCells, hz, obs_len, ← Nat.add_mul]
    exact Nat.mul_le_mul_right 8 (by omega)
  · rw [List.flatMap_append, Array.toList_append, Array.toList_append, List.length_append, Nat.add_mul]
    have e : xs.length * 8 + ys.length * 8 = (xs.flatMap Ob.cells ++ ys.flatMap Ob.cells).length := by simp only [List.length_append, obs_len]
    rw [e]
    exact List.take_left
theorem made_sl (w : World) : SL (w.alloc (.cells #[] 35)) (.slice (some ⟨w.heap.size, 0, none⟩) 0 0) [] := .inr ⟨w.heap.size, 0, #[], rfl, heap_alloc_new w _, Nat.le_refl _, by unfold maxLen; omega, by simp, by simp⟩
theorem Frm.setS {O : Nat → Prop} {w : World} {s j : Nat} (h : O s) (v : Value) : Frm O w (w.setCell ⟨s, j, none⟩ v) := ⟨rfl, rfl, rfl, by simp [World.setCell], fun k _ hk => blk_far (fun e => hk (by rw [e]; exact h)) v⟩
end Stk
end Go.Proofs.YtigjkkmnellanaaDoor
