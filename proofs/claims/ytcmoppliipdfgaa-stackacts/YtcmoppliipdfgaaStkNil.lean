/-
  A stack that is none, by contracts; a row of which one number an object turns.
-/
import Derived.Test.YtcmoppliipdfgaaStkLaws
namespace Go.Proofs.Ytcmoppliipdfgaa
open Go.RowKit
open St Stk
section
set_option maxRecDepth 100000
theorem pop_nil (w : World) : Calls Try.prog 54 #[.pointer none] w fun e w' => e = .returned (.tuple #[nul.val, .int .i64 21]) ∧ Below w.heap.size w w' := by
  have hb := below1 w (.cells zeroOb 40)
  have HZ := Lib.hid (heap_alloc_new w (.cells zeroOb 40))
  have HB := Lib.hid hb
  have HP := Lib.hid (fun W => place_nil (w := W) 0)
  unfold zeroOb at HZ HB
  unfold nul Ob.val
  clear hb
  go_enter Try.func54, Try.ntmps54
  go_wp2_with fail
  refine (HP.out _).mono ?_; rintro e w1 ⟨rfl, rfl⟩
  obtain ⟨d0, d1, d2, d3, d4, d5, d6, d7, df⟩ := box_cells HZ.out
  go_wp2_with fail
  exact bodyPost_ret (results_ob2 Try.results54 _ _ w.heap.size rfl rfl HZ.out) rfl ⟨rfl, HB.out⟩
theorem topT_nil (w : World) : Calls Try.prog 56 #[.pointer none, .int .i64 0] w fun e w' => e = .returned (.tuple #[nul.val, .int .i64 21]) ∧ Below w.heap.size w w' := by
  have hb := below1 w (.cells zeroOb 40)
  have HZ := Lib.hid (heap_alloc_new w (.cells zeroOb 40))
  have HB := Lib.hid hb
  have HP := Lib.hid (fun W => place_nil (w := W) 0)
  unfold zeroOb at HZ HB
  unfold nul Ob.val
  clear hb
  go_enter Try.func56, Try.ntmps56
  go_wp2_with fail
  refine (HP.out _).mono ?_; rintro e w1 ⟨rfl, rfl⟩
  obtain ⟨d0, d1, d2, d3, d4, d5, d6, d7, df⟩ := box_cells HZ.out
  go_wp2_with fail
  exact bodyPost_ret (results_ob2 Try.results56 _ _ w.heap.size rfl rfl HZ.out) rfl ⟨rfl, HB.out⟩
theorem swap_nil (y : Ob) (w : World) : Calls Try.prog 57 #[.pointer none, .int .i64 0, y.val] w fun e w' => e = .returned (.int .i64 21) ∧ Below w.heap.size w w' := by
  have HB := Lib.hid (below1 w (obC y))
  have HP := Lib.hid (fun W => place_nil (w := W) 0)
  unfold obC at HB
  unfold Ob.val
  go_enter Try.func57, Try.ntmps57
  go_wp2_with fail
  refine (HP.out _).mono ?_; rintro e w1 ⟨rfl, rfl⟩
  go_wp2_with fail
  go_ret
  exact ⟨rfl, HB.out⟩
theorem take_nil (w : World) (i : Int) : Calls Try.prog 55 #[.pointer none, .int .i64 i] w fun e w' => e = .returned (.tuple #[.slice none 0 0, .int .i64 21]) ∧ w' = w := by
  have HP := Lib.hid (fun W => top_nil (w := W) i)
  go_enter Try.func55, Try.ntmps55
  go_wp2_with fail
  refine (HP.out _).mono ?_; rintro e w1 ⟨rfl, rfl⟩
  go_wp2_with fail
  go_ret2
  exact ⟨rfl, rfl⟩
theorem roll_nil (w : World) (i j : Int) : Calls Try.prog 58 #[.pointer none, .int .i64 i, .int .i64 j] w fun e w' => e = .returned (.int .i64 21) ∧ w' = w := by
  have HP := Lib.hid (fun W => top_nil (w := W) i)
  go_enter Try.func58, Try.ntmps58
  go_wp2_with fail
  refine (HP.out _).mono ?_; rintro e w1 ⟨rfl, rfl⟩
  go_wp2_with fail
  go_ret
  exact ⟨rfl, rfl⟩
end
/-- a row in which each object has a number at its place f -/
def IR (w : World) (g n f : Nat) : Prop := ∃ cur, w.heap[g]? = some (.cells cur 40 (0, 0)) ∧ ∀ i, i < n → ∃ z, cur[i * 8 + f]? = some (.int .i64 z)
theorem IR.of_sl {w : World} {g c : Nat} {l : List Ob} (h : SL w (.slice (some ⟨g, 0, none⟩) l.length c) l) (f : Nat) (hf : f = 0 ∨ f = 3) : IR w g l.length f := by
  obtain ⟨cur, h0, h1, h2, h3, ht⟩ := h.flat
  refine ⟨cur, h0, fun i hi => ?_⟩
  have hc := h.cellAt (i * 8 + f) (by omega)
  rw [blk_cell h0] at hc
  rw [hc, obs_at l i f l[i] (List.getElem?_eq_getElem hi) (by omega)]
  rcases hf with rfl | rfl
  · exact ⟨_, rfl⟩
  · exact ⟨_, rfl⟩
theorem IR.set {w : World} {g n f i : Nat} {z : Int} (h : IR w g n f) (hi : i < n) : IR (w.setCell ⟨g, i * 8 + f, none⟩ (.int .i64 z)) g n f := by
  obtain ⟨cur, h0, hx⟩ := h
  refine ⟨_, blk_set h0 _ _, fun k hk => ?_⟩
  obtain ⟨y, hy⟩ := hx k hk
  by_cases e : k = i
  · subst e
    refine ⟨z, ?_⟩
    rw [Array.getElem?_setIfInBounds, if_pos rfl, if_pos (Array.getElem?_eq_some_iff.1 hy).1]
  · refine ⟨y, ?_⟩
    rw [Array.getElem?_setIfInBounds_ne (by omega)]
    exact hy
theorem IR.cell {w : World} {g n f i : Nat} (h : IR w g n f) (hi : i < n) : (∃ z, w.cell? ⟨g, i * 8 + f, none⟩ = some (.int .i64 z)) ∧ w.frozen? ⟨g, i * 8 + f, none⟩ = false := by
  obtain ⟨cur, h0, hx⟩ := h
  obtain ⟨z, hz⟩ := hx i hi
  exact ⟨⟨z, by rw [blk_cell h0]; exact hz⟩, blk_free h0 _⟩
theorem IR.same {w w' : World} {g n f : Nat} (h : IR w g n f) (hk : w'.heap[g]? = w.heap[g]?) : IR w' g n f := by
  obtain ⟨cur, h0, hx⟩ := h
  exact ⟨cur, hk.trans h0, hx⟩
/-- the stack, and such a row that is not its own -/
def RelB (w wr : World) (s : Nat) (most ov un : Int) (l : List Ob) (oa : Option Addr) (f : Nat) : Prop := ∃ O : Nat → Prop, Sk O wr s most ov un l ∧ (∀ k, O k → w.heap.size ≤ k) ∧ Below w.heap.size w wr ∧ (l = [] ∨ ∃ g, oa = some ⟨g, 0, none⟩ ∧ IR wr g l.length f ∧ ¬ O g ∧ w.heap.size ≤ g)
theorem RelB.stt {w wr : World} {s f : Nat} {most ov un : Int} {l : List Ob} {oa : Option Addr} (h : RelB w wr s most ov un l oa f) : Stt w wr s most ov un l := by
  obtain ⟨O, h1, h2, h3, _⟩ := h
  exact ⟨O, h1, h2, h3⟩
theorem RelB.set {w wr : World} {s f g i : Nat} {most ov un z : Int} {l : List Ob} (h : RelB w wr s most ov un l (some ⟨g, 0, none⟩) f) (hi : i < l.length) : RelB w (wr.setCell ⟨g, i * 8 + f, none⟩ (.int .i64 z)) s most ov un l (some ⟨g, 0, none⟩) f := by
  obtain ⟨O, h1, h2, h3, h4⟩ := h
  rcases h4 with h4 | ⟨g', e, h5, h6, h7⟩
  · rw [h4] at hi; simp at hi
  · cases e
    refine ⟨O, h1.same (by rw [setC_size]; exact Nat.le_refl _) (fun k _ hk => blk_far (fun (e : k = g) => h6 (by rw [← e]; exact hk)) _), h2, below_set h3 h7 _, .inr ⟨g, rfl, h5.set hi, h6, h7⟩⟩
theorem RelB.cell {w wr : World} {s f i : Nat} {most ov un : Int} {l : List Ob} {oa : Option Addr} (h : RelB w wr s most ov un l oa f) (hi : i < l.length) : ∃ g z, oa = some ⟨g, 0, none⟩ ∧ wr.cell? ⟨g, i * 8 + f, none⟩ = some (.int .i64 z) ∧ wr.frozen? ⟨g, i * 8 + f, none⟩ = false := by
  obtain ⟨O, h1, h2, h3, h4⟩ := h
  rcases h4 with h4 | ⟨g, e, h5, h6, h7⟩
  · rw [h4] at hi; simp at hi
  · obtain ⟨⟨z, hz⟩, hf⟩ := h5.cell hi
    exact ⟨g, z, e, hz, hf⟩
end Go.Proofs.Ytcmoppliipdfgaa
