/-
  Rows of objects, and of the document's values: what an append does to them (made by genrow.py).
-/
import Derived.Test.YtgbpldfcahajeaaDoorAriRf
import Derived.WalkSpells
import Derived.Deep.AppendLies
import Derived.Laws.OwnMore
import Derived.Laws.CopyOwn
namespace Go.Proofs.YtgbpldfcahajeaaDoor
open Go.RowKit
open Fx
namespace Ari
def Ob.vcells (o : Ob) : List Value := [.int .i64 o.kind, .bool o.exec, .int .i64 o.acc, .int .i64 o.n, .string o.name, .pointer none, .pointer none, .pointer none, .int .i64 0, .int .i64 0]
def isB (v : Value) (k : Nat) : Prop := v.ownBlock = some k
theorem isB_le {g k n c : Nat} (hk : isB (.slice (some ⟨g, 0, none⟩) n c) k) : g ≤ k := by
  have : g = k := by simpa [isB, Value.ownBlock] using hk
  omega
theorem infoO : (Tryd.prog.info? 38).map (fun i => (i.zero, i.size, i.bytes)) = some (some (.agg #[.int .i64 0, .bool false, .int .i64 0, .int .i64 0, .string ⟨#[]⟩, .int .i64 0, .int .i64 0, .int .i64 0]), 8, 72) := by kernel_rfl
theorem lenO (l : List Ob) : (l.flatMap Ob.cells).length = l.length * 8 := by
  induction l with
  | nil => rfl
  | cons x l ih => rw [List.flatMap_cons, List.length_append, ih]; simp [Ob.cells]; omega
theorem oneO (l : List Ob) : ∀ u ∈ l.flatMap Ob.cells, u.oneCell' = true := by
  intro u hu
  obtain ⟨o, _, ho⟩ := List.mem_flatMap.1 hu
  simp [Ob.cells] at ho
  rcases ho with rfl | rfl | rfl | rfl | rfl | rfl | rfl | rfl <;> rfl
/-- cells that can be read at a slice's address -/
def SrcO (w : World) (a : Option Addr) (l : List Ob) : Prop := l = [] ∨ ∃ ad, a = some ad ∧ ∀ j z, (l.flatMap Ob.cells)[j]? = some z → w.cell? (ad.add j) = some z
theorem SrcO.below {w w' : World} {a : Option Addr} {l : List Ob} (h : SrcO w a l) (hb : Below w.heap.size w w') : SrcO w' a l := by
  rcases h with h | ⟨ad, e, hc⟩
  · exact .inl h
  · exact .inr ⟨ad, e, fun j z hz => (hb.cell (World.block_lt_of_cell? w _ (hc j z hz))).trans (hc j z hz)⟩
theorem SrcO.some {w : World} {ad : Addr} {l : List Ob} (h : SrcO w (some ad) l) : ∀ j z, (l.flatMap Ob.cells)[j]? = .some z → w.cell? (ad.add j) = .some z := by
  rcases h with rfl | ⟨ad', e, hx⟩
  · intro j z hz; simp at hz
  · cases e; exact hx
theorem SrcO.none {w : World} {l : List Ob} (h : SrcO w none l) : l = [] := by
  rcases h with h | ⟨ad', e, _⟩
  · exact h
  · cases e
/-- a row of one's own -/
def SLO (w : World) (v : Value) (l : List Ob) : Prop :=
  (v = .slice none 0 0 ∧ l = []) ∨ ∃ g cap cur, v = .slice (some ⟨g, 0, none⟩) l.length cap ∧ w.heap[g]? = some (.cells cur 38 (0, 0)) ∧ l.length ≤ cap ∧ cap ≤ maxLen ∧ cap * 8 ≤ cur.size ∧ cur.toList.take (l.length * 8) = l.flatMap Ob.cells
theorem SLO.nil (w : World) : SLO w (.slice none 0 0) [] := .inl ⟨rfl, rfl⟩
theorem SLO.cellAt {w : World} {g cap : Nat} {l : List Ob} {n : Nat} (h : SLO w (.slice (some ⟨g, 0, none⟩) n cap) l) (j : Nat) (hj : j < l.length * 8) : w.cell? ⟨g, j, none⟩ = (l.flatMap Ob.cells)[j]? := by
  rcases h with ⟨e, _⟩ | ⟨g', cap', cur, e, hg, _, _, _, ht⟩
  · cases e
  · cases e
    rw [blk_cell hg j, ← ht, List.getElem?_take, if_pos hj]
    simp
theorem SLO.src {w : World} {a : Option Addr} {n c : Nat} {l : List Ob} (h : SLO w (.slice a n c) l) : SrcO w a l := by
  rcases h with ⟨e, e2⟩ | ⟨g, cap, cur, e, hg, h1, h2, h3, ht⟩
  · exact .inl e2
  · cases e
    refine .inr ⟨_, rfl, fun j z hz => ?_⟩
    have hj : j < l.length * 8 := by have := (List.getElem?_eq_some_iff.1 hz).1; rw [lenO] at this; exact this
    rw [Addr.add_lit, Nat.zero_add, ← hz]
    exact SLO.cellAt (.inr ⟨g, c, cur, rfl, hg, h1, h2, h3, ht⟩) j hj
theorem grownO {w : World} {old : Nat} {xs ys : List Ob} {z : Value} (hz : z.cells.size = 8) (hm : xs.length + ys.length ≤ 100000) :
    SLO (w.drew.alloc (.cells ((xs.flatMap Ob.cells).toArray ++ (ys.flatMap Ob.cells).toArray ++ Builtin.zeroCells z.cells (grownCap w (xs.length + ys.length) old 38 - (xs.length + ys.length))) 38)) (.slice (some ⟨w.heap.size, 0, none⟩) (xs.length + ys.length) (grownCap w (xs.length + ys.length) old 38)) (xs ++ ys) := by
  have hge := grownCap_ge w (xs.length + ys.length) old 38
  have hcm := grownCap_le_maxLen w (xs.length + ys.length) old 38 (by unfold maxLen; omega)
  refine .inr ⟨w.heap.size, _, _, by rw [List.length_append], heap_alloc_new w.drew _, by rw [List.length_append]; exact hge, hcm, ?_, ?_⟩
  · simp only [Array.size_append, List.size_toArray, size_zeroCells, hz, lenO, ← Nat.add_mul]
    exact Nat.mul_le_mul_right 8 (by omega)
  · rw [List.flatMap_append, Array.toList_append, Array.toList_append, List.length_append, Nat.add_mul]
    have e : xs.length * 8 + ys.length * 8 = (xs.flatMap Ob.cells ++ ys.flatMap Ob.cells).length := by simp only [List.length_append, lenO]
    rw [e]
    exact List.take_left
theorem SLO.append {w : World} {v : Value} {l ys : List Ob} {a : Option Addr} {c : Nat} (h : SLO w v l) (hs : SrcO w a ys) (hc : a = none → c = 0) (hm : l.length + ys.length ≤ 100000) (ty : TypeId) :
    ∃ v' w', (Builtin.append_ #[22, 22] ty #[v, .slice a ys.length c]).run Tryd.prog w = .ok v' w' ∧ SLO w' v' (l ++ ys) ∧ w.grownBy w' v.ownBlock ∧ (∀ k, isB v' k → isB v k ∨ w.heap.size ≤ k) := by
  obtain ⟨i0, hi, hz0, hz1, hz2⟩ := info_parts infoO
  cases a with
  | none =>
    obtain rfl := hc rfl
    obtain rfl := hs.none
    refine ⟨v, w, ?_, by rw [List.append_nil]; exact h, ⟨rfl, rfl, rfl, Nat.le_refl _, fun _ _ _ => rfl⟩, fun k hk => .inl hk⟩
    rcases h with ⟨rfl, rfl⟩ | ⟨g, cap, cur, rfl, hg, h1, _⟩
    · simp [Builtin.append_, run_underlying Tryd.underlying22, sizeOf, typeInfo, hi, Builtin.lenOf, Builtin.firstCells]
    · simp [Builtin.append_, run_underlying Tryd.underlying22, sizeOf, typeInfo, hi, Builtin.lenOf, Builtin.firstCells, h1, storeCells]
  | some ad =>
    have hx := hs.some
    have hly := lenO ys
    have hll := lenO l
    have hzs : (.agg #[.int .i64 0, .bool false, .int .i64 0, .int .i64 0, .string ⟨#[]⟩, .int .i64 0, .int .i64 0, .int .i64 0] : Value).cells.size = 8 := rfl
    rcases h with ⟨rfl, rfl⟩ | ⟨g, cap, cur, rfl, hg, h1, h2, h3, ht⟩
    · by_cases hy : ys = []
      · subst hy
        refine ⟨.slice none 0 0, w, ?_, SLO.nil w, ⟨rfl, rfl, rfl, Nat.le_refl _, fun _ _ _ => rfl⟩, fun k hk => .inl hk⟩
        simp [Builtin.append_, run_underlying Tryd.underlying22, sizeOf, typeInfo, hi, Builtin.lenOf, Builtin.firstCells, loadCells, loadCellsFrom]
      · have hp : 0 < ys.length := List.length_pos_iff.2 hy
        have hr := run_append_nil (P := Tryd.prog) w 22 ty 38 i0 _ Tryd.underlying22 hi hz0 ad ys.length c (ys.flatMap Ob.cells) (by rw [hz1]; exact hly) hx hp (by simp at hm; omega) (by rw [hz2]; simp at hm; omega)
        have hgr := grownO (w := w) (old := 0) (xs := []) (ys := ys) hzs (by simpa using hm)
        simp only [List.length_nil, Nat.zero_add, List.nil_append, List.flatMap_nil, Array.empty_append] at hgr
        exact ⟨_, _, hr, hgr, ⟨rfl, rfl, rfl, by simp, fun k hk _ => heap_alloc_old w.drew _ hk⟩, fun k hk => .inr (isB_le hk)⟩
    · by_cases hroom : l.length + ys.length ≤ cap
      · have hfit : l.length * i0.size + (ys.flatMap Ob.cells).length ≤ cur.size := by rw [hz1, hly, ← Nat.add_mul]; exact Nat.le_trans (Nat.mul_le_mul_right 8 hroom) h3
        have hr := run_append_room (P := Tryd.prog) w 22 ty 38 i0 Tryd.underlying22 hi g l.length cap cur hg ad ys.length c (ys.flatMap Ob.cells) (by rw [hz1]; exact hly) hx (oneO ys) hroom hfit
        rw [hz1] at hr hfit
        refine ⟨_, _, hr, .inr ⟨g, cap, _, by rw [List.length_append], setRow_heap w g cur _ _ _ hg, by rw [List.length_append]; exact hroom, h2, ?_, ?_⟩, ⟨rfl, rfl, rfl, by simp, fun k _ hk => setRow_other w g k _ (fun e => hk (by simp [Value.ownBlock, e]))⟩, fun k hk => .inl (by simpa [isB, Value.ownBlock] using hk)⟩
        · simp only [List.size_toArray, List.length_append, List.length_take, List.length_drop, Array.length_toList]
          omega
        · rw [ht, List.flatMap_append, List.length_append, Nat.add_mul]
          have e : l.length * 8 + ys.length * 8 = (l.flatMap Ob.cells ++ ys.flatMap Ob.cells).length := by simp only [List.length_append, lenO]
          rw [e]
          exact List.take_left
      · have holds : ∀ j u, (l.flatMap Ob.cells)[j]? = some u → w.cell? ((⟨g, 0, none⟩ : Addr).add j) = some u := (SLO.src (c := cap) (n := l.length) (.inr ⟨g, cap, cur, rfl, hg, h1, h2, h3, ht⟩)).some
        have hr := run_append_grow (P := Tryd.prog) w 22 ty 38 i0 _ Tryd.underlying22 hi hz0 ⟨g, 0, none⟩ l.length cap (l.flatMap Ob.cells) (by rw [hz1]; exact hll) holds ad ys.length c (ys.flatMap Ob.cells) (by rw [hz1]; exact hly) hx (by omega) (by omega) (growslice_fits (by omega) (by rw [hz2]; omega))
        exact ⟨_, _, hr, grownO (w := w) (old := cap) (xs := l) (ys := ys) hzs hm, ⟨rfl, rfl, rfl, by simp, fun k hk _ => heap_alloc_old w.drew _ hk⟩, fun k hk => .inr (isB_le hk)⟩
theorem freshO (w : World) : SLO (w.alloc (.cells #[] 38)) (.slice (some ⟨w.heap.size, 0, none⟩) 0 0) [] := .inr ⟨w.heap.size, 0, #[], rfl, heap_alloc_new w _, Nat.le_refl _, by unfold maxLen; omega, by simp, by simp⟩
theorem infoV : (Tryd.prog.info? 35).map (fun i => (i.zero, i.size, i.bytes)) = some (some (.agg #[.int .i64 0, .bool false, .int .i64 0, .int .i64 0, .string ⟨#[]⟩, .pointer none, .pointer none, .pointer none, .int .i64 0, .int .i64 0]), 10, 88) := by kernel_rfl
theorem lenV (l : List Ob) : (l.flatMap Ob.vcells).length = l.length * 10 := by
  induction l with
  | nil => rfl
  | cons x l ih => rw [List.flatMap_cons, List.length_append, ih]; simp [Ob.vcells]; omega
theorem oneV (l : List Ob) : ∀ u ∈ l.flatMap Ob.vcells, u.oneCell' = true := by
  intro u hu
  obtain ⟨o, _, ho⟩ := List.mem_flatMap.1 hu
  simp [Ob.vcells] at ho
  rcases ho with rfl | rfl | rfl | rfl | rfl | rfl | rfl | rfl | rfl | rfl <;> rfl
/-- cells that can be read at a slice's address -/
def SrcV (w : World) (a : Option Addr) (l : List Ob) : Prop := l = [] ∨ ∃ ad, a = some ad ∧ ∀ j z, (l.flatMap Ob.vcells)[j]? = some z → w.cell? (ad.add j) = some z
theorem SrcV.below {w w' : World} {a : Option Addr} {l : List Ob} (h : SrcV w a l) (hb : Below w.heap.size w w') : SrcV w' a l := by
  rcases h with h | ⟨ad, e, hc⟩
  · exact .inl h
  · exact .inr ⟨ad, e, fun j z hz => (hb.cell (World.block_lt_of_cell? w _ (hc j z hz))).trans (hc j z hz)⟩
theorem SrcV.some {w : World} {ad : Addr} {l : List Ob} (h : SrcV w (some ad) l) : ∀ j z, (l.flatMap Ob.vcells)[j]? = .some z → w.cell? (ad.add j) = .some z := by
  rcases h with rfl | ⟨ad', e, hx⟩
  · intro j z hz; simp at hz
  · cases e; exact hx
theorem SrcV.none {w : World} {l : List Ob} (h : SrcV w none l) : l = [] := by
  rcases h with h | ⟨ad', e, _⟩
  · exact h
  · cases e
/-- a row of one's own -/
def SLV (w : World) (v : Value) (l : List Ob) : Prop :=
  (v = .slice none 0 0 ∧ l = []) ∨ ∃ g cap cur, v = .slice (some ⟨g, 0, none⟩) l.length cap ∧ w.heap[g]? = some (.cells cur 35 (0, 0)) ∧ l.length ≤ cap ∧ cap ≤ maxLen ∧ cap * 10 ≤ cur.size ∧ cur.toList.take (l.length * 10) = l.flatMap Ob.vcells
theorem SLV.nil (w : World) : SLV w (.slice none 0 0) [] := .inl ⟨rfl, rfl⟩
theorem SLV.cellAt {w : World} {g cap : Nat} {l : List Ob} {n : Nat} (h : SLV w (.slice (some ⟨g, 0, none⟩) n cap) l) (j : Nat) (hj : j < l.length * 10) : w.cell? ⟨g, j, none⟩ = (l.flatMap Ob.vcells)[j]? := by
  rcases h with ⟨e, _⟩ | ⟨g', cap', cur, e, hg, _, _, _, ht⟩
  · cases e
  · cases e
    rw [blk_cell hg j, ← ht, List.getElem?_take, if_pos hj]
    simp
theorem SLV.src {w : World} {a : Option Addr} {n c : Nat} {l : List Ob} (h : SLV w (.slice a n c) l) : SrcV w a l := by
  rcases h with ⟨e, e2⟩ | ⟨g, cap, cur, e, hg, h1, h2, h3, ht⟩
  · exact .inl e2
  · cases e
    refine .inr ⟨_, rfl, fun j z hz => ?_⟩
    have hj : j < l.length * 10 := by have := (List.getElem?_eq_some_iff.1 hz).1; rw [lenV] at this; exact this
    rw [Addr.add_lit, Nat.zero_add, ← hz]
    exact SLV.cellAt (.inr ⟨g, c, cur, rfl, hg, h1, h2, h3, ht⟩) j hj
theorem grownV {w : World} {old : Nat} {xs ys : List Ob} {z : Value} (hz : z.cells.size = 10) (hm : xs.length + ys.length ≤ 100000) :
    SLV (w.drew.alloc (.cells ((xs.flatMap Ob.vcells).toArray ++ (ys.flatMap Ob.vcells).toArray ++ Builtin.zeroCells z.cells (grownCap w (xs.length + ys.length) old 35 - (xs.length + ys.length))) 35)) (.slice (some ⟨w.heap.size, 0, none⟩) (xs.length + ys.length) (grownCap w (xs.length + ys.length) old 35)) (xs ++ ys) := by
  have hge := grownCap_ge w (xs.length + ys.length) old 35
  have hcm := grownCap_le_maxLen w (xs.length + ys.length) old 35 (by unfold maxLen; omega)
  refine .inr ⟨w.heap.size, _, _, by rw [List.length_append], heap_alloc_new w.drew _, by rw [List.length_append]; exact hge, hcm, ?_, ?_⟩
  · simp only [Array.size_append, List.size_toArray, size_zeroCells, hz, lenV, ← Nat.add_mul]
    exact Nat.mul_le_mul_right 10 (by omega)
  · rw [List.flatMap_append, Array.toList_append, Array.toList_append, List.length_append, Nat.add_mul]
    have e : xs.length * 10 + ys.length * 10 = (xs.flatMap Ob.vcells ++ ys.flatMap Ob.vcells).length := by simp only [List.length_append, lenV]
    rw [e]
    exact List.take_left
theorem SLV.append {w : World} {v : Value} {l ys : List Ob} {a : Option Addr} {c : Nat} (h : SLV w v l) (hs : SrcV w a ys) (hc : a = none → c = 0) (hm : l.length + ys.length ≤ 100000) (ty : TypeId) :
    ∃ v' w', (Builtin.append_ #[30, 30] ty #[v, .slice a ys.length c]).run Tryd.prog w = .ok v' w' ∧ SLV w' v' (l ++ ys) ∧ w.grownBy w' v.ownBlock ∧ (∀ k, isB v' k → isB v k ∨ w.heap.size ≤ k) := by
  obtain ⟨i0, hi, hz0, hz1, hz2⟩ := info_parts infoV
  cases a with
  | none =>
    obtain rfl := hc rfl
    obtain rfl := hs.none
    refine ⟨v, w, ?_, by rw [List.append_nil]; exact h, ⟨rfl, rfl, rfl, Nat.le_refl _, fun _ _ _ => rfl⟩, fun k hk => .inl hk⟩
    rcases h with ⟨rfl, rfl⟩ | ⟨g, cap, cur, rfl, hg, h1, _⟩
    · simp [Builtin.append_, run_underlying Tryd.underlying30, sizeOf, typeInfo, hi, Builtin.lenOf, Builtin.firstCells]
    · simp [Builtin.append_, run_underlying Tryd.underlying30, sizeOf, typeInfo, hi, Builtin.lenOf, Builtin.firstCells, h1, storeCells]
  | some ad =>
    have hx := hs.some
    have hly := lenV ys
    have hll := lenV l
    have hzs : (.agg #[.int .i64 0, .bool false, .int .i64 0, .int .i64 0, .string ⟨#[]⟩, .pointer none, .pointer none, .pointer none, .int .i64 0, .int .i64 0] : Value).cells.size = 10 := rfl
    rcases h with ⟨rfl, rfl⟩ | ⟨g, cap, cur, rfl, hg, h1, h2, h3, ht⟩
    · by_cases hy : ys = []
      · subst hy
        refine ⟨.slice none 0 0, w, ?_, SLV.nil w, ⟨rfl, rfl, rfl, Nat.le_refl _, fun _ _ _ => rfl⟩, fun k hk => .inl hk⟩
        simp [Builtin.append_, run_underlying Tryd.underlying30, sizeOf, typeInfo, hi, Builtin.lenOf, Builtin.firstCells, loadCells, loadCellsFrom]
      · have hp : 0 < ys.length := List.length_pos_iff.2 hy
        have hr := run_append_nil (P := Tryd.prog) w 30 ty 35 i0 _ Tryd.underlying30 hi hz0 ad ys.length c (ys.flatMap Ob.vcells) (by rw [hz1]; exact hly) hx hp (by simp at hm; omega) (by rw [hz2]; simp at hm; omega)
        have hgr := grownV (w := w) (old := 0) (xs := []) (ys := ys) hzs (by simpa using hm)
        simp only [List.length_nil, Nat.zero_add, List.nil_append, List.flatMap_nil, Array.empty_append] at hgr
        exact ⟨_, _, hr, hgr, ⟨rfl, rfl, rfl, by simp, fun k hk _ => heap_alloc_old w.drew _ hk⟩, fun k hk => .inr (isB_le hk)⟩
    · by_cases hroom : l.length + ys.length ≤ cap
      · have hfit : l.length * i0.size + (ys.flatMap Ob.vcells).length ≤ cur.size := by rw [hz1, hly, ← Nat.add_mul]; exact Nat.le_trans (Nat.mul_le_mul_right 10 hroom) h3
        have hr := run_append_room (P := Tryd.prog) w 30 ty 35 i0 Tryd.underlying30 hi g l.length cap cur hg ad ys.length c (ys.flatMap Ob.vcells) (by rw [hz1]; exact hly) hx (oneV ys) hroom hfit
        rw [hz1] at hr hfit
        refine ⟨_, _, hr, .inr ⟨g, cap, _, by rw [List.length_append], setRow_heap w g cur _ _ _ hg, by rw [List.length_append]; exact hroom, h2, ?_, ?_⟩, ⟨rfl, rfl, rfl, by simp, fun k _ hk => setRow_other w g k _ (fun e => hk (by simp [Value.ownBlock, e]))⟩, fun k hk => .inl (by simpa [isB, Value.ownBlock] using hk)⟩
        · simp only [List.size_toArray, List.length_append, List.length_take, List.length_drop, Array.length_toList]
          omega
        · rw [ht, List.flatMap_append, List.length_append, Nat.add_mul]
          have e : l.length * 10 + ys.length * 10 = (l.flatMap Ob.vcells ++ ys.flatMap Ob.vcells).length := by simp only [List.length_append, lenV]
          rw [e]
          exact List.take_left
      · have holds : ∀ j u, (l.flatMap Ob.vcells)[j]? = some u → w.cell? ((⟨g, 0, none⟩ : Addr).add j) = some u := (SLV.src (c := cap) (n := l.length) (.inr ⟨g, cap, cur, rfl, hg, h1, h2, h3, ht⟩)).some
        have hr := run_append_grow (P := Tryd.prog) w 30 ty 35 i0 _ Tryd.underlying30 hi hz0 ⟨g, 0, none⟩ l.length cap (l.flatMap Ob.vcells) (by rw [hz1]; exact hll) holds ad ys.length c (ys.flatMap Ob.vcells) (by rw [hz1]; exact hly) hx (by omega) (by omega) (growslice_fits (by omega) (by rw [hz2]; omega))
        exact ⟨_, _, hr, grownV (w := w) (old := cap) (xs := l) (ys := ys) hzs hm, ⟨rfl, rfl, rfl, by simp, fun k hk _ => heap_alloc_old w.drew _ hk⟩, fun k hk => .inr (isB_le hk)⟩
theorem freshV (w : World) : SLV (w.alloc (.cells #[] 35)) (.slice (some ⟨w.heap.size, 0, none⟩) 0 0) [] := .inr ⟨w.heap.size, 0, #[], rfl, heap_alloc_new w _, Nat.le_refl _, by unfold maxLen; omega, by simp, by simp⟩
end Ari
end Go.Proofs.YtgbpldfcahajeaaDoor
