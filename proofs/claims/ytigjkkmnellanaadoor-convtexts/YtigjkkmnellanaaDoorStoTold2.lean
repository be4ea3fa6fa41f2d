/-
  The things of a store by their Refs, and by what an object tells, by contracts: upTo, byRef, told.
-/
import Derived.Test.YtigjkkmnellanaaDoorStoTold
namespace Go.Proofs.YtigjkkmnellanaaDoor
open Go.RowKit
open St
def blkOf : Value → Nat
  | .slice (some a) _ _ => a.block
  | _ => 0
/-- what is read of a store's things -/
structure Vw (w : World) (s : Nat) (tv : Value) (G : List (Th × Lay)) : Prop where
  c0 : w.cell? ⟨s, 0, none⟩ = some tv
  few : G.length ≤ 1048576
  row : (tv = .slice none 0 0 ∧ G = []) ∨ ∃ g cap, tv = .slice (some ⟨g, 0, none⟩) G.length cap ∧ g < w.heap.size ∧ ∀ (i f : Nat) (x : Th × Lay), G[i]? = some x → f < 7 → w.cell? ⟨g, i * 7 + f, none⟩ = (thC i x)[f]?
theorem Vw.lt {w : World} {s : Nat} {tv : Value} {G : List (Th × Lay)} (h : Vw w s tv G) : s < w.heap.size := World.block_lt_of_cell? w _ h.c0
theorem Vw.below {w w' : World} {s : Nat} {tv : Value} {G : List (Th × Lay)} (h : Vw w s tv G) (hb : Below w.heap.size w w') : Vw w' s tv G := by
  refine ⟨(hb.cell (by exact h.lt)).trans h.c0, h.few, ?_⟩
  rcases h.row with h0 | ⟨g, cap, rfl, hg, hc⟩
  · exact .inl h0
  · exact .inr ⟨g, cap, rfl, Nat.lt_of_lt_of_le hg hb.size, fun i f x hx hf => (hb.cell (by exact hg)).trans (hc i f x hx hf)⟩
theorem below2 (w : World) (o p : Obj) : Below w.heap.size w ((w.alloc o).alloc p) := ((Below.refl _ _).alloc (by simp) _).alloc (by simp) _
theorem below1 (w : World) (o : Obj) : Below w.heap.size w (w.alloc o) := (Below.refl _ _).alloc (by simp) _
theorem below_draw {B : Nat} {w w' : World} (h : Below B w w') (q : Nat) : Below B w (w'.drewN q) := h.trans ⟨rfl, rfl, rfl, Nat.le_refl _, fun _ _ => rfl⟩
theorem bthen {w v u : World} (h : Below w.heap.size w v) (k : Below v.heap.size v u) : Below w.heap.size w u := h.trans (k.mono h.size)
theorem Vw.sea {w : World} {s : Nat} {tv : Value} {G : List (Th × Lay)} (h : Vw w s tv G) (r : Int) : Sea ((w.alloc (.cells #[.pointer (some ⟨s, 0, none⟩)] 24)).alloc (.cells #[.int .i64 r] 3)) w.heap.size (w.heap.size + 1) s r G.length tv := by
  have hb := h.below (below2 w (.cells #[.pointer (some ⟨s, 0, none⟩)] 24) (.cells #[.int .i64 r] 3))
  refine ⟨by simp [go_sem], by simp [go_sem], hb.c0, ?_⟩
  rcases hb.row with ⟨_, rfl⟩ | ⟨g, cap, e, _, hc⟩
  · exact .inl rfl
  · exact .inr ⟨g, cap, e, fun i hi => (hc i 0 _ (List.getElem?_eq_getElem hi) (by omega)).trans rfl⟩
theorem upTo_at {w : World} {s : Nat} {tv : Value} {G : List (Th × Lay)} (h : Vw w s tv G) (r : Int) :
    Calls Tryd.prog 48 #[.pointer (some ⟨s, 0, none⟩), .int .i64 r] w fun e w' => e = .returned (.int .i64 (upN r G.length)) ∧ Below w.heap.size w w' := by
  have HS := Lib.hid (search_at h.few (h.sea r))
  have hb := h.below (below2 w (.cells #[.pointer (some ⟨s, 0, none⟩)] 24) (.cells #[.int .i64 r] 3))
  have hc := hb.c0
  have hlt := h.lt
  have hmf : ∀ (fn : Fn) (first cap : Array Value) (w : World), (Instr.makeFunc fn first cap).run Tryd.prog w = .ok (.func fn first cap) w := fun _ _ _ _ => rfl
  have hsl : ∃ a c, tv = .slice a G.length c := by
    rcases h.row with ⟨rfl, rfl⟩ | ⟨g, cap, rfl, _⟩
    · exact ⟨none, 0, rfl⟩
    · exact ⟨_, _, rfl⟩
  obtain ⟨ta, tc, rfl⟩ := hsl
  have hfew := h.few
  have hc0 := h.c0
  clear h hb
  go_enter Tryd.func48, Tryd.ntmps48
  go_wp2_with fail
  refine HS.out.mono ?_; rintro e w' ⟨rfl, q, rfl⟩
  go_wp2_with fail
  go_ret
  exact ⟨rfl, below_draw (below2 _ _ _) q⟩
end Go.Proofs.YtigjkkmnellanaaDoor
