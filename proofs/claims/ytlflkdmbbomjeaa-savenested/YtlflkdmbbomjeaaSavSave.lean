/-
  A save, by a contract: Save.
-/
import Derived.Test.YtlflkdmbbomjeaaSavNew
import Derived.Test.YtlflkdmbbomjeaaSavAlive
import Derived.Test.YtlflkdmbbomjeaaStoMk
import Derived.Deep.AppendLies
namespace Go.Proofs.Ytlflkdmbbomjeaa
open Go.RowKit
open St
def savC (s n : Nat) : List Value := [.pointer (some ⟨s, 0, none⟩), .int .i64 n]
theorem flat_len {α : Type} (f : α → List Value) (c : Nat) (hf : ∀ x, (f x).length = c) : ∀ l : List α, (l.flatMap f).length = l.length * c
  | [] => by simp
  | x :: l => by rw [List.flatMap_cons, List.length_append, flat_len f c hf l, hf, List.length_cons, Nat.add_mul]; omega
theorem flat_at {α : Type} (f : α → List Value) (c : Nat) (hf : ∀ x, (f x).length = c) : ∀ (l : List α) (i j : Nat) (x : α), l[i]? = some x → j < c → (l.flatMap f)[i * c + j]? = (f x)[j]?
  | [], i, j, x, h, _ => by simp at h
  | y :: l, 0, j, x, h, hj => by
    simp at h; subst h
    rw [List.flatMap_cons, List.getElem?_append_left (by rw [hf]; omega)]; simp
  | y :: l, i + 1, j, x, h, hj => by
    rw [List.flatMap_cons, List.getElem?_append_right (by rw [hf, Nat.add_mul]; omega), hf, show (i + 1) * c + j - c = i * c + j by rw [Nat.add_mul]; omega]
    exact flat_at f c hf l i j x (by simpa using h) hj
/-- the saves at block v, whole -/
structure SvB (w : World) (s v : Nat) (lv : Value) (A : List Nat) : Prop where
  blk : w.heap[v]? = some (.cells #[.pointer (some ⟨s, 0, none⟩), lv] 158 (0, 0))
  row : w.ownsRow 0 161 2 lv A.length (A.flatMap (savC s))
  few : A.length ≤ 15
theorem SvB.sv {w : World} {s v : Nat} {lv : Value} {A : List Nat} (h : SvB w s v lv A) : Sv w s v lv A := by
  refine ⟨blk_cell h.blk 0, blk_cell h.blk 1, h.few, ?_⟩
  have hrow := h.row
  rcases hrow.2 with ⟨e, hn⟩ | ⟨g, cap, cur, e, _, hg, hnc, hm, _⟩
  · exact .inl ⟨e, List.eq_nil_of_length_eq_zero hn⟩
  · subst e
    refine .inr ⟨g, cap, rfl, (Array.getElem?_eq_some_iff.1 hg).1, hnc, hm, fun i n hx => ?_⟩
    have hi : i < A.length := (List.getElem?_eq_some_iff.1 hx).1
    have a0 := flat_at (savC s) 2 (fun _ => rfl) A i 0 n hx (by omega)
    have a1 := flat_at (savC s) 2 (fun _ => rfl) A i 1 n hx (by omega)
    exact ⟨(hrow.cellAt (i * 2) (by omega)).trans a0, (hrow.cellAt (i * 2 + 1) (by omega)).trans a1⟩
theorem SvB.same {w w' : World} {s v : Nat} {lv : Value} {A : List Nat} (h : SvB w s v lv A) (hv : w'.heap[v]? = w.heap[v]?) (hl : ∀ k, isB lv k → w'.heap[k]? = w.heap[k]?) : SvB w' s v lv A := ⟨hv.trans h.blk, owns_same h.row hl, h.few⟩
/-- a store's block with its marks, whole -/
structure MkB (w : World) (s : Nat) (tv : Value) (made : Nat) (fr : Int) (mv : Value) (K : Nat) (cv : Value) (M : List Mrk) : Prop where
  blk : w.heap[s]? = some (.cells #[tv, .int .i64 made, .int .i64 fr, mv, .int .i64 K, cv] 110 (0, 0))
  row : w.ownsRow 0 136 4 mv M.length (M.flatMap Mrk.cells)
  rise : Rise M
  top : ∀ x ∈ M, x.num ≤ K
  few : M.length ≤ 1000000
  most : K ≤ 1000000
theorem MkB.mv {w : World} {s made K : Nat} {tv mv cv : Value} {fr : Int} {M : List Mrk} (h : MkB w s tv made fr mv K cv M) : Mv w s mv M := by
  refine ⟨blk_cell h.blk 3, by have := h.few; omega, ?_⟩
  have hrow := h.row
  rcases hrow.2 with ⟨e, hn⟩ | ⟨g, cap, cur, e, _, hg, hnc, _⟩
  · exact .inl ⟨e, List.eq_nil_of_length_eq_zero hn⟩
  · subst e
    refine .inr ⟨g, cap, rfl, (Array.getElem?_eq_some_iff.1 hg).1, fun i f x hx hf => ?_⟩
    have hi : i < M.length := (List.getElem?_eq_some_iff.1 hx).1
    exact (hrow.cellAt (i * 4 + f) (by omega)).trans (flat_at Mrk.cells 4 (fun _ => rfl) M i f x hx hf)
theorem MkB.same {w w' : World} {s made K : Nat} {tv mv cv : Value} {fr : Int} {M : List Mrk} (h : MkB w s tv made fr mv K cv M) (hs : w'.heap[s]? = w.heap[s]?) (hl : ∀ k, isB mv k → w'.heap[k]? = w.heap[k]?) : MkB w' s tv made fr mv K cv M := ⟨hs.trans h.blk, owns_same h.row hl, h.rise, h.top, h.few, h.most⟩
theorem MkB.lt {w : World} {s made K : Nat} {tv mv cv : Value} {fr : Int} {M : List Mrk} (h : MkB w s tv made fr mv K cv M) : s < w.heap.size := (Array.getElem?_eq_some_iff.1 h.blk).1
theorem SvB.lt {w : World} {s v : Nat} {lv : Value} {A : List Nat} (h : SvB w s v lv A) : v < w.heap.size := (Array.getElem?_eq_some_iff.1 h.blk).1
theorem MkB.below {w w' : World} {s made K : Nat} {tv mv cv : Value} {fr : Int} {M : List Mrk} (h : MkB w s tv made fr mv K cv M) (hb : Below w.heap.size w w') : MkB w' s tv made fr mv K cv M := h.same (hb.block s h.lt) (fun k hk => hb.block k (owns_lt h.row hk))
theorem SvB.below {w w' : World} {s v : Nat} {lv : Value} {A : List Nat} (h : SvB w s v lv A) (hb : Below w.heap.size w w') : SvB w' s v lv A := h.same (hb.block v h.lt) (fun k hk => hb.block k (owns_lt h.row hk))
theorem rise_snoc {M : List Mrk} {K : Nat} {m : Mrk} (h : Rise M) (ht : ∀ x ∈ M, x.num ≤ K) (hm : K < m.num) : Rise (M ++ [m]) := by
  intro i j x y hij hx hy
  have hi : i < M.length := by
    have := (List.getElem?_eq_some_iff.1 hy).1
    simp at this; omega
  rw [List.getElem?_append_left hi] at hx
  rcases Nat.lt_or_ge j M.length with hj | hj
  · rw [List.getElem?_append_left hj] at hy
    exact h i j x y hij hx hy
  · have : y = m := by
      rw [List.getElem?_append_right hj] at hy
      have := List.mem_of_getElem? hy
      simpa using this
    subst this
    have := ht x (List.mem_of_getElem? hx)
    omega
/-- what a save is, as an object -/
def sob (n : Int) : Ob := ⟨10, false, 0, n, ⟨#[]⟩, 0, 0, 0⟩
/-- what a save leaves -/
structure Svd (w : World) (s v made : Nat) (tv mv lv cv : Value) (fr : Int) (K nc : Nat) (M : List Mrk) (A : List Nat) (w' : World) : Prop where
  out : ∃ mv' lv', MkB w' s tv made fr mv' (K + 1) cv (M ++ [⟨K + 1, made, fr, nc⟩]) ∧ SvB w' s v lv' (A ++ [K + 1]) ∧ (∀ k, isB mv' k → isB mv k ∨ w.heap.size ≤ k) ∧ (∀ k, isB lv' k → isB lv k ∨ w.heap.size ≤ k)
  frm : Frm (fun k => k = s ∨ isB mv k ∨ k = v ∨ isB lv k) w w'
theorem saved_info : (Try.prog.info? 161).map (fun i => (i.zero, i.size, i.bytes)) = some (some (.agg #[.pointer none, .int .i64 0]), 2, 16) := by kernel_rfl
theorem save_full {w : World} {s v made K : Nat} {tv mv lv cv : Value} {fr : Int} {M : List Mrk} {A : List Nat} (hM : MkB w s tv made fr mv K cv M) (hS : SvB w s v lv A) (hA : ∀ n ∈ A, (mkI M n).isSome = true) (hf : A.length = 15) :
    Calls Try.prog 36 #[.pointer (some ⟨v, 0, none⟩)] w fun e w' => e = .returned (.tuple #[nul.val, .int .i64 9]) ∧ Below w.heap.size w w' := by
  have HL := Lib.hid (lost_no (hS.below (below1 w (.cells zeroOb 40))).sv.c0)
  have HA := Lib.hid (alive_at (hS.below (below1 w (.cells zeroOb 40))).sv (hM.below (below1 w (.cells zeroOb 40))).mv hM.rise hA)
  unfold zeroOb at HL HA
  obtain ⟨a, c, rfl⟩ := own_slice hS.row
  rw [hf] at HA
  clear hM hS hA
  go_enter Try.func36, Try.ntmps36
  go_wp2_with fail
  refine HL.out.mono ?_; rintro e w2 ⟨rfl, rfl⟩
  go_wp2_with fail
  refine HA.out.mono ?_; rintro e w2 ⟨rfl, hb⟩
  have hB : w2.heap[w.heap.size]? = some (.cells zeroOb 40 (0, 0)) := (hb.block _ (by simp)).trans (heap_alloc_new w _)
  obtain ⟨d0, d1, d2, d3, d4, d5, d6, d7, df⟩ := box_cells hB
  have HBl := Lib.hid (bthen (below1 w _) hb)
  have HB := Lib.hid hB
  clear hb hB
  go_wp2_with fail
  have hp := put8 HB.out (.int .i64 0) (.bool false) (.int .i64 0) (.int .i64 0) (.string ⟨#[]⟩) (.int .i64 0) (.int .i64 0) (.int .i64 0)
  refine bodyPost_ret (results_ob2 Try.results36 _ _ w.heap.size rfl rfl hp.blk) rfl ⟨rfl, ?_⟩
  exact HBl.out.trans ⟨hp.os, hp.tape, hp.output, by rw [hp.size]; exact Nat.le_refl _, fun k hk => hp.far k (by omega)⟩
end Go.Proofs.Ytlflkdmbbomjeaa
