/-
  A copy of a store: what its loop keeps to.
-/
import Derived.Test.YtlflkdmbbomjeaaStoClone
import Derived.Test.YtlflkdmbbomjeaaStoSet
namespace Go.Proofs.Ytlflkdmbbomjeaa
open Go.RowKit
open St
theorem copy0 {W : World} {T E : TypeId} {i : TypeInfo} {d : Addr} {am : Option Addr} {cm : Nat} (hu : Try.prog.underlying T = some (.slice E)) (hi : Try.prog.info? E = some i) : (Builtin.copy_ #[T, T] 3 #[.slice (some d) 0 0, .slice am 0 cm]).run Try.prog W = .ok (.int .i64 0) W := by
  have hl : ∀ (x : Addr), (loadCells x 0).run Try.prog W = .ok #[] W := fun x => by simpa using run_loadCells_list (P := Try.prog) W x [] (by simp)
  cases am <;> simp [Builtin.copy_, run_underlying hu, Builtin.lenOf, Builtin.firstCells, sizeOf, typeInfo, hi, storeCells, hl, goInt]
/-- the rows of one thing are others -/
def layF (l : Lay) (y : Th × Lay) : Th × Lay := (y.1, l)
theorem thsC_lay (l : Lay) : ∀ (G : List (Th × Lay)) (r t : Nat) (y : Th × Lay), G[t]? = some y → thsC r (G.modify t (layF l)) = (((thsC r G).set (t * 7 + 2) l.b).set (t * 7 + 3) l.i).set (t * 7 + 4) l.p
  | [], r, t, y, h => by simp at h
  | z :: G, r, 0, y, _ => by
    rw [List.modify_zero_cons, thsC, thsC, List.set_append_left _ _ (by simp [thC]), List.set_append_left _ _ (by simp [thC]), List.set_append_left _ _ (by simp [thC])]
    rfl
  | z :: G, r, t + 1, y, h => by
    rw [List.modify_succ_cons, thsC, thsC, thsC_lay l G (r + 1) t y (by simpa using h), show (t + 1) * 7 + 2 = (thC r z).length + (t * 7 + 2) by simp [thC]; omega, show (t + 1) * 7 + 3 = (thC r z).length + (t * 7 + 3) by simp [thC]; omega, show (t + 1) * 7 + 4 = (thC r z).length + (t * 7 + 4) by simp [thC]; omega, set_right, set_right, set_right]
/-- k things have rows of their own -/
structure Cps (w wr : World) (H B : Nat) (fr : Int) (am ac : Option Addr) (cm cc : Nat) (G : List (Th × Lay)) (k : Nat) (D : List (Th × Lay)) : Prop where
  below : Below w.heap.size w wr
  hH : H = w.heap.size
  hB : B = w.heap.size + 1
  blk : wr.heap[H]? = some (.cells #[.slice (some ⟨B, 0, none⟩) G.length G.length, .int .i64 G.length, .int .i64 fr, .slice am 0 cm, .int .i64 0, .slice ac 0 cc] 110 (0, 0))
  row : wr.ownsRow 0 121 7 (.slice (some ⟨B, 0, none⟩) G.length G.length) G.length (thsC 0 D)
  len : D.length = G.length
  th : ∀ (j : Nat) (y : Th × Lay), D[j]? = some y → ∃ z, G[j]? = some z ∧ y.1 = z.1 ∧ (k ≤ j → y.2 = z.2)
  own : ∀ (j : Nat) (y : Th × Lay), j < k → D[j]? = some y → ThR (fun q => w.heap.size + 1 < q ∧ q < wr.heap.size) wr y.1 y.2
  apart : ∀ (i j : Nat) (x y : Th × Lay), i ≠ j → i < k → j < k → D[i]? = some x → D[j]? = some y → apartL x.2 y.2
theorem thC_one (r : Nat) (y : Th × Lay) (hb : ∃ a n c, y.2.b = .slice a n c) (hi : ∃ a n c, y.2.i = .slice a n c) (hp : ∃ a n c, y.2.p = .slice a n c) : ∀ v ∈ thC r y, v.oneCell' = true := by
  obtain ⟨a1, n1, c1, e1⟩ := hb
  obtain ⟨a2, n2, c2, e2⟩ := hi
  obtain ⟨a3, n3, c3, e3⟩ := hp
  intro v hv
  simp [thC, e1, e2, e3] at hv
  rcases hv with rfl | rfl | rfl | rfl | rfl | rfl | rfl <;> rfl
theorem thsC_one : ∀ (G : List (Th × Lay)) (r : Nat), Slc G → ∀ v ∈ thsC r G, v.oneCell' = true
  | [], r, _, v, hv => by simp [thsC] at hv
  | y :: G, r, hS, v, hv => by
    rw [thsC, List.mem_append] at hv
    rcases hv with hv | hv
    · obtain ⟨⟨a1, c1, e1⟩, ⟨a2, c2, e2⟩, ⟨a3, c3, e3⟩, _⟩ := hS 0 y rfl
      exact thC_one r y ⟨_, _, _, e1⟩ ⟨_, _, _, e2⟩ ⟨_, _, _, e3⟩ v hv
    · exact thsC_one G (r + 1) (fun i x hx => hS (i + 1) x (by simpa using hx)) v hv
theorem slots_one (l : List Ob) : ∀ v ∈ l.flatMap slotC, v.oneCell' = true := by
  intro v hv
  obtain ⟨o, _, hv⟩ := List.mem_flatMap.1 hv
  simp [slotC] at hv
  rcases hv with rfl | rfl | rfl | rfl | rfl | rfl | rfl | rfl | rfl <;> rfl
theorem pairs_one (l : List (Ob × Ob)) : ∀ v ∈ l.flatMap pairC, v.oneCell' = true := by
  intro v hv
  obtain ⟨o, _, hv⟩ := List.mem_flatMap.1 hv
  simp [pairC, Ob.cells, slotC] at hv
  rcases hv with rfl | rfl | rfl | rfl | rfl | rfl | rfl | rfl | rfl | rfl | rfl | rfl | rfl | rfl | rfl | rfl | rfl <;> rfl
/-- the copy is a store of its own -/
theorem Cps.rep {w wr w' : World} {H B : Nat} {fr : Int} {am ac am' ac' : Option Addr} {cm cc cm' cc' : Nat} {G D : List (Th × Lay)} (h : Cps w wr H B fr am ac cm cc G G.length D) (h0 : 0 ≤ fr) (hf : G.length + fr ≤ 1048576) (hsz : wr.heap.size ≤ w'.heap.size)
    (hb : w'.heap[H]? = some (.cells #[.slice (some ⟨B, 0, none⟩) G.length G.length, .int .i64 G.length, .int .i64 fr, .slice am' 0 cm', .int .i64 0, .slice ac' 0 cc'] 110 (0, 0))) (hk : ∀ k, k < wr.heap.size → k ≠ H → w'.heap[k]? = wr.heap[k]?) :
    Rep (fun k => w.heap.size ≤ k ∧ k < w'.heap.size) w' H fr D ∧ D.map (·.1) = G.map (·.1) := by
  have hHl : H < w'.heap.size := (Array.getElem?_eq_some_iff.1 hb).1
  have hHB : B ≠ H := by have := h.hH; have := h.hB; omega
  have hBl : B < wr.heap.size := owns_lt h.row rfl
  refine ⟨⟨⟨by have := h.hH; omega, hHl⟩, fun k hk => hk.2, ⟨_, am', cm', ac', cc', by rw [h.len]; exact hb, ?_, fun k hk2 => ?_⟩, fun i x hx => ?_, fun i j x y hij hx hy => ?_, h0, by rw [h.len]; exact hf⟩, ?_⟩
  · rw [h.len]
    exact owns_same h.row (fun k hk2 => hk k (owns_lt h.row hk2) (by
      have : B = k := by simpa [isB, Value.ownBlock] using hk2
      omega))
  · have : B = k := by simpa [isB, Value.ownBlock] using hk2
    have := h.hB; omega
  · have hi : i < G.length := by have := (List.getElem?_eq_some_iff.1 hx).1; have := h.len; omega
    have hr := h.own i x hi hx
    refine (hr.same (fun k hk2 => hk k (hr.lt hk2) ?_)).mono (fun k hk2 e => ⟨by omega, hk2⟩)
    have : w.heap.size + 1 < k := by rcases hk2 with e | e | e; exact (hr.ob k e).1; exact (hr.oi k e).1; exact (hr.op k e).1
    have := h.hH; omega
  · have := h.len
    exact h.apart i j x y hij (by have := (List.getElem?_eq_some_iff.1 hx).1; omega) (by have := (List.getElem?_eq_some_iff.1 hy).1; omega) hx hy
  · apply List.ext_getElem?
    intro j
    rw [List.getElem?_map, List.getElem?_map]
    rcases Nat.lt_or_ge j D.length with hj | hj
    · obtain ⟨z, hz, e, _⟩ := h.th j _ (List.getElem?_eq_getElem hj)
      rw [List.getElem?_eq_getElem hj, hz]; simp [e]
    · rw [List.getElem?_eq_none hj, List.getElem?_eq_none (by have := h.len; omega)]
end Go.Proofs.Ytlflkdmbbomjeaa
