/-
  Rows of objects of one's own, which may have more room than they show; what an append, a clone and a copy do to such rows.
-/
import Derived.Test.YtfilbfenpdaahaaGreatDoorStoWrite
import Derived.Laws.CopyOwn
import Derived.Lib.AppendZeros
namespace Go.Proofs.YtfilbfenpdaahaaGreatDoor
open Go.RowKit
open St
namespace Stk
theorem isB_le {g k n c : Nat} (hk : isB (.slice (some ⟨g, 0, none⟩) n c) k) : g ≤ k := by
  have : g = k := by simpa [isB, Value.ownBlock] using hk
  omega
theorem obs_one (l : List Ob) : ∀ u ∈ l.flatMap Ob.cells, u.oneCell' = true := by
  intro u hu
  obtain ⟨o, _, ho⟩ := List.mem_flatMap.1 hu
  simp [Ob.cells] at ho
  rcases ho with rfl | rfl | rfl | rfl | rfl | rfl | rfl | rfl <;> rfl
/-- objects that can be read at a slice's address -/
def SrcO (w : World) (a : Option Addr) (l : List Ob) : Prop := l = [] ∨ ∃ ad, a = some ad ∧ ∀ j z, (l.flatMap Ob.cells)[j]? = some z → w.cell? (ad.add j) = some z
theorem SrcO.below {w w' : World} {a : Option Addr} {l : List Ob} (h : SrcO w a l) (hb : Below w.heap.size w w') : SrcO w' a l := by
  rcases h with h | ⟨ad, e, hc⟩
  · exact .inl h
  · exact .inr ⟨ad, e, fun j z hz => (hb.cell (World.block_lt_of_cell? w _ (hc j z hz))).trans (hc j z hz)⟩
theorem SrcO.some {w : World} {ad : Addr} {l : List Ob} (h : SrcO w (some ad) l) : ∀ j z, (l.flatMap Ob.cells)[j]? = .some z → w.cell? (ad.add j) = .some z := by
  rcases h with rfl | ⟨ad', e, hx⟩
  · intro j z hz; simp at hz
  · cases e; exact hx
theorem SrcO.none {w : World} {l : List Ob} (h : SrcO w none l) : l = [] := by
  rcases h with h | ⟨ad', e, _⟩
  · exact h
  · cases e
/-- a row of objects of one's own -/
def SL (w : World) (v : Value) (l : List Ob) : Prop :=
  (v = .slice none 0 0 ∧ l = []) ∨ ∃ g cap cur, v = .slice (some ⟨g, 0, none⟩) l.length cap ∧ w.heap[g]? = some (.cells cur 27 (0, 0)) ∧ l.length ≤ cap ∧ cap ≤ maxLen ∧ cap * 8 ≤ cur.size ∧ cur.toList.take (l.length * 8) = l.flatMap Ob.cells
theorem SL.same {w w' : World} {v : Value} {l : List Ob} (h : SL w v l) (hk : ∀ k, isB v k → w'.heap[k]? = w.heap[k]?) : SL w' v l := by
  rcases h with h0 | ⟨g, cap, cur, rfl, hg, hr⟩
  · exact .inl h0
  · exact .inr ⟨g, cap, cur, rfl, (hk g rfl).trans hg, hr⟩
theorem SL.lt {w : World} {v : Value} {l : List Ob} (h : SL w v l) {k : Nat} (hk : isB v k) : k < w.heap.size := by
  rcases h with ⟨rfl, _⟩ | ⟨g, cap, cur, rfl, hg, _⟩
  · cases hk
  · have : g = k := by simpa [isB, Value.ownBlock] using hk
    subst this
    exact (Array.getElem?_eq_some_iff.1 hg).1
theorem SL.below {w w' : World} {v : Value} {l : List Ob} (h : SL w v l) (hb : Below w.heap.size w w') : SL w' v l := h.same (fun k hk => hb.block k (h.lt hk))
theorem SL.form {w : World} {v : Value} {l : List Ob} (h : SL w v l) : ∃ a c, v = .slice a l.length c ∧ (a = none → c = 0) ∧ (l.length ≤ c) := by
  rcases h with ⟨rfl, rfl⟩ | ⟨g, cap, cur, rfl, _, h1, _⟩
  · exact ⟨none, 0, rfl, fun _ => rfl, Nat.le_refl _⟩
  · exact ⟨_, cap, rfl, fun e => (by cases e), h1⟩
theorem SL.cellAt {w : World} {g cap : Nat} {l : List Ob} {n : Nat} (h : SL w (.slice (some ⟨g, 0, none⟩) n cap) l) (j : Nat) (hj : j < l.length * 8) : w.cell? ⟨g, j, none⟩ = (l.flatMap Ob.cells)[j]? := by
  rcases h with ⟨e, _⟩ | ⟨g', cap', cur, e, hg, _, _, _, ht⟩
  · cases e
  · cases e
    rw [blk_cell hg j, ← ht, List.getElem?_take, if_pos hj]
    simp
theorem SL.free {w : World} {g cap : Nat} {l : List Ob} {n : Nat} (h : SL w (.slice (some ⟨g, 0, none⟩) n cap) l) (j : Nat) : w.frozen? ⟨g, j, none⟩ = false := by
  rcases h with ⟨e, _⟩ | ⟨g', cap', cur, e, hg, _⟩
  · cases e
  · cases e
    exact blk_free hg j
theorem SL.src {w : World} {a : Option Addr} {n c : Nat} {l : List Ob} (h : SL w (.slice a n c) l) : SrcO w a l := by
  rcases h with ⟨e, e2⟩ | ⟨g, cap, cur, e, hg, h1, h2, h3, ht⟩
  · exact .inl e2
  · cases e
    refine .inr ⟨_, rfl, fun j z hz => ?_⟩
    have hj : j < l.length * 8 := by have := (List.getElem?_eq_some_iff.1 hz).1; rw [obs_len] at this; exact this
    rw [Addr.add_lit, Nat.zero_add, ← hz]
    exact SL.cellAt (.inr ⟨g, c, cur, rfl, hg, h1, h2, h3, ht⟩) j hj
theorem SL.len {w : World} {a : Option Addr} {n c : Nat} {l : List Ob} (h : SL w (.slice a n c) l) : n = l.length := by
  rcases h with ⟨e, e2⟩ | ⟨g, cap, cur, e, _⟩
  · cases e; subst e2; rfl
  · cases e; rfl
theorem SL.nil (w : World) : SL w (.slice none 0 0) [] := .inl ⟨rfl, rfl⟩
theorem grown_sl {w : World} {old : Nat} {xs ys : List Ob} {z : Value} (hz : z.cells.size = 8) (hm : xs.length + ys.length ≤ 100000) :
    SL (w.drew.alloc (.cells ((xs.flatMap Ob.cells).toArray ++ (ys.flatMap Ob.cells).toArray ++ Builtin.zeroCells z.cells (grownCap w (xs.length + ys.length) old 27 - (xs.length + ys.length))) 27)) (.slice (some ⟨w.heap.size, 0, none⟩) (xs.length + ys.length) (grownCap w (xs.length + ys.length) old 27)) (xs ++ ys) := by
  have hge := grownCap_ge w (xs.length + ys.length) old 27
  have hcm := grownCap_le_maxLen w (xs.length + ys.length) old 27 (by unfold maxLen; omega)
  refine .inr ⟨w.heap.size, _, _, by rw [List.length_append], heap_alloc_new w.drew _, by rw [List.length_append]; exact hge, hcm, ?_, ?_⟩
  · simp only [Array.size_append, List.size_toArray, size_zeroCells, hz, obs_len, ← Nat.add_mul]
    exact Nat.mul_le_mul_right 8 (by omega)
  · rw [List.flatMap_append, Array.toList_append, Array.toList_append, List.length_append, Nat.add_mul]
    have e : xs.length * 8 + ys.length * 8 = (xs.flatMap Ob.cells ++ ys.flatMap Ob.cells).length := by simp only [List.length_append, obs_len]
    rw [e]
    exact List.take_left
/-- an append to a row of one's own -/
theorem SL.append {w : World} {v : Value} {l ys : List Ob} {a : Option Addr} {c : Nat} (h : SL w v l) (hs : SrcO w a ys) (hc : a = none → c = 0) (hm : l.length + ys.length ≤ 100000) (ty : TypeId) :
    ∃ v' w', (Builtin.append_ #[30, 30] ty #[v, .slice a ys.length c]).run Tryz.prog w = .ok v' w' ∧ SL w' v' (l ++ ys) ∧ w.grownBy w' v.ownBlock ∧ (∀ k, isB v' k → isB v k ∨ w.heap.size ≤ k) ∧ (v' = .slice none 0 0 → v = .slice none 0 0) := by
  obtain ⟨i0, hi, hz0, hz1, hz2⟩ := info_parts obj_info
  cases a with
  | none =>
    obtain rfl := hc rfl
    obtain rfl := hs.none
    refine ⟨v, w, ?_, by rw [List.append_nil]; exact h, ⟨rfl, rfl, rfl, Nat.le_refl _, fun _ _ _ => rfl⟩, fun k hk => .inl hk, fun e => e⟩
    rcases h with ⟨rfl, rfl⟩ | ⟨g, cap, cur, rfl, hg, h1, _⟩
    · simp [Builtin.append_, run_underlying Tryz.underlying30, sizeOf, typeInfo, hi, Builtin.lenOf, Builtin.firstCells]
    · simp [Builtin.append_, run_underlying Tryz.underlying30, sizeOf, typeInfo, hi, Builtin.lenOf, Builtin.firstCells, h1, storeCells]
  | some ad =>
    have hx := hs.some
    have hly := obs_len ys
    have hll := obs_len l
    have hzs : (Value.agg #[.int .i64 0, .bool false, .int .i64 0, .int .i64 0, .string ⟨#[]⟩, .int .i64 0, .int .i64 0, .int .i64 0]).cells.size = 8 := rfl
    rcases h with ⟨rfl, rfl⟩ | ⟨g, cap, cur, rfl, hg, h1, h2, h3, ht⟩
    · by_cases hy : ys = []
      · subst hy
        refine ⟨.slice none 0 0, w, ?_, SL.nil w, ⟨rfl, rfl, rfl, Nat.le_refl _, fun _ _ _ => rfl⟩, fun k hk => .inl hk, fun e => e⟩
        simp [Builtin.append_, run_underlying Tryz.underlying30, sizeOf, typeInfo, hi, Builtin.lenOf, Builtin.firstCells, loadCells, loadCellsFrom]
      · have hp : 0 < ys.length := List.length_pos_iff.2 hy
        have hr := run_append_nil (P := Tryz.prog) w 30 ty 27 i0 _ Tryz.underlying30 hi hz0 ad ys.length c (ys.flatMap Ob.cells) (by rw [hz1]; exact hly) hx hp (by simp at hm; omega) (by rw [hz2]; simp at hm; omega)
        have hgr := grown_sl (w := w) (old := 0) (xs := []) (ys := ys) hzs (by simpa using hm)
        simp only [List.length_nil, Nat.zero_add, List.nil_append, List.flatMap_nil, Array.empty_append] at hgr
        exact ⟨_, _, hr, hgr, ⟨rfl, rfl, rfl, by simp, fun k hk _ => heap_alloc_old w.drew _ hk⟩, fun k hk => .inr (isB_le hk), fun e => by cases e⟩
    · by_cases hroom : l.length + ys.length ≤ cap
      · have hfit : l.length * i0.size + (ys.flatMap Ob.cells).length ≤ cur.size := by rw [hz1, hly, ← Nat.add_mul]; exact Nat.le_trans (Nat.mul_le_mul_right 8 hroom) h3
        have hr := run_append_room (P := Tryz.prog) w 30 ty 27 i0 Tryz.underlying30 hi g l.length cap cur hg ad ys.length c (ys.flatMap Ob.cells) (by rw [hz1]; exact hly) hx (obs_one ys) hroom hfit
        rw [hz1] at hr hfit
        refine ⟨_, _, hr, .inr ⟨g, cap, _, by rw [List.length_append], setRow_heap w g cur _ _ _ hg, by rw [List.length_append]; exact hroom, h2, ?_, ?_⟩, ⟨rfl, rfl, rfl, by simp, fun k _ hk => setRow_other w g k _ (fun e => hk (by simp [Value.ownBlock, e]))⟩, fun k hk => .inl (by simpa [isB, Value.ownBlock] using hk), fun e => by cases e⟩
        · simp only [List.size_toArray, List.length_append, List.length_take, List.length_drop, Array.length_toList]
          omega
        · rw [ht, List.flatMap_append, List.length_append, Nat.add_mul]
          have e : l.length * 8 + ys.length * 8 = (l.flatMap Ob.cells ++ ys.flatMap Ob.cells).length := by simp only [List.length_append, obs_len]
          rw [e]
          exact List.take_left
      · have holds : ∀ j u, (l.flatMap Ob.cells)[j]? = some u → w.cell? ((⟨g, 0, none⟩ : Addr).add j) = some u := (SL.src (c := cap) (n := l.length) (.inr ⟨g, cap, cur, rfl, hg, h1, h2, h3, ht⟩)).some
        have hr := run_append_grow (P := Tryz.prog) w 30 ty 27 i0 _ Tryz.underlying30 hi hz0 ⟨g, 0, none⟩ l.length cap (l.flatMap Ob.cells) (by rw [hz1]; exact hll) holds ad ys.length c (ys.flatMap Ob.cells) (by rw [hz1]; exact hly) hx (by omega) (by omega) (growslice_fits (by omega) (by rw [hz2]; omega))
        exact ⟨_, _, hr, grown_sl (w := w) (old := cap) (xs := l) (ys := ys) hzs hm, ⟨rfl, rfl, rfl, by simp, fun k hk _ => heap_alloc_old w.drew _ hk⟩, fun k hk => .inr (isB_le hk), fun e => by cases e⟩
theorem made_sl (w : World) : SL (w.alloc (.cells #[] 27)) (.slice (some ⟨w.heap.size, 0, none⟩) 0 0) [] := .inr ⟨w.heap.size, 0, #[], rfl, heap_alloc_new w _, Nat.le_refl _, by unfold maxLen; omega, by simp, by simp⟩
/-- a copy by an append to an empty row -/
theorem copiedO {w : World} {a : Option Addr} {l : List Ob} {c : Nat} (h : SrcO w a l) (hc : a = none → c = 0) (hm : l.length ≤ 100000) (ty : TypeId) :
    ∃ B c2 w2, (Builtin.append_ #[30, 30] ty #[.slice (some ⟨w.heap.size, 0, none⟩) 0 0, .slice a l.length c]).run Tryz.prog (w.alloc (.cells #[] 27)) = .ok (.slice (some ⟨B, 0, none⟩) l.length c2) w2 ∧
      Below w.heap.size w w2 ∧ w.heap.size ≤ B ∧ SL w2 (.slice (some ⟨B, 0, none⟩) l.length c2) l := by
  obtain ⟨v', w', hr, h2, h3, h4, h5⟩ := SL.append (made_sl w) (h.below (below1 w _)) hc (by simpa using hm) ty
  rw [List.nil_append] at h2
  have hb : Below w.heap.size w w' := Below.grown (w := w.alloc (.cells #[] 27)) ((Below.refl _ _).alloc (Nat.le_refl _) _) h3 (by simp) (by intro k hk; simp [Value.ownBlock] at hk; omega)
  rcases h2 with ⟨e, _⟩ | ⟨g, cap, cur, e, hg, hrest⟩
  · exact absurd (h5 e) (by simp)
  · subst e
    refine ⟨g, cap, w', hr, hb, ?_, .inr ⟨g, cap, cur, rfl, hg, hrest⟩⟩
    rcases h4 g rfl with e | e
    · have : w.heap.size = g := by simpa [isB, Value.ownBlock] using e
      omega
    · simp at e; omega
theorem Frm.setS {O : Nat → Prop} {w : World} {s j : Nat} (h : O s) (v : Value) : Frm O w (w.setCell ⟨s, j, none⟩ v) := ⟨rfl, rfl, rfl, by simp [World.setCell], fun k _ hk => blk_far (fun e => hk (by rw [e]; exact h)) v⟩
end Stk
end Go.Proofs.YtfilbfenpdaahaaGreatDoor
