/-
  Blocks known whole: what is written into them, and what is answered out of them.
-/
import Derived.Test.YtfilbfenpdaahaaGreatDoorStoMake
namespace Go.Proofs.YtfilbfenpdaahaaGreatDoor
open Go.RowKit
open St
theorem alloc_at {W : World} {o : Obj} {k : Nat} (h : W.heap.size = k) : (W.alloc o).heap[k]? = some o := by subst h; exact heap_alloc_new W o
theorem blk_set {W : World} {B : Nat} {cs : Array Value} {t : TypeId} {fr : Nat × Nat} (h : W.heap[B]? = some (.cells cs t fr)) (j : Nat) (v : Value) : (W.setCell ⟨B, j, none⟩ v).heap[B]? = some (.cells (cs.setIfInBounds j v) t fr) := by
  simp only [World.setCell, Array.getElem?_modify, if_true, h, Option.map_some, Option.isSome_none]
  rfl
theorem blk_far {W : World} {B b j : Nat} (h : b ≠ B) (v : Value) : (W.setCell ⟨B, j, none⟩ v).heap[b]? = W.heap[b]? := Below.heap_setCell _ _ _ _ h
theorem blk_cell {W : World} {B : Nat} {cs : Array Value} {t : TypeId} {fr : Nat × Nat} (h : W.heap[B]? = some (.cells cs t fr)) (j : Nat) : W.cell? ⟨B, j, none⟩ = cs[j]? := by simp [World.cell?, h]
theorem blk_free {W : World} {B : Nat} {cs : Array Value} {t : TypeId} (h : W.heap[B]? = some (.cells cs t (0, 0))) (j : Nat) : W.frozen? ⟨B, j, none⟩ = false := by simp [World.frozen?, h]
theorem own_ne {w : World} {s base n size : Nat} {e t : TypeId} {v : Value} {cs : Array Value} {fr : Nat × Nat} {xs : List Value} (hs : w.heap[s]? = some (.cells cs t fr)) (h : w.ownsRow base e size v n xs) (hne : t ≠ e) : some s ≠ v.ownBlock := by
  intro e1
  rcases h.2 with ⟨rfl, _⟩ | ⟨g, cap, cur, rfl, _, hg, _⟩
  · cases e1
  · have : s = g := by simpa [Value.ownBlock] using e1
    subst this
    rw [hs] at hg
    cases hg
    exact hne rfl
theorem isB_ne {g k s n c : Nat} (hk : isB (.slice (some ⟨g, 0, none⟩) n c) k) (h : g ≠ s) : k ≠ s := by
  have : g = k := by simpa [isB, Value.ownBlock] using hk
  omega
theorem own_other {W : World} {base gg n cap size B : Nat} {e t : TypeId} {xs : List Value} {cs : Array Value} {fr : Nat × Nat} (h : W.ownsRow base e size (.slice (some ⟨gg, 0, none⟩) n cap) n xs) (hB : W.heap[B]? = some (.cells cs t fr)) (hne : t ≠ e := by decide) : gg ≠ B := by
  intro e1
  exact own_ne hB h hne (by rw [← e1]; rfl)
theorem put8b {W : World} {B : Nat} {c0 c1 c2 c3 c4 c5 c6 c7 : Value} {t : TypeId} (h : W.heap[B]? = some (.cells #[c0, c1, c2, c3, c4, c5, c6, c7] t (0, 0))) (v0 v1 v2 v3 v4 v5 v6 v7 : Value) :
    ((((((((W.setCell ⟨B, 0, none⟩ v0).setCell ⟨B, 1, none⟩ v1).setCell ⟨B, 2, none⟩ v2).setCell ⟨B, 3, none⟩ v3).setCell ⟨B, 4, none⟩ v4).setCell ⟨B, 5, none⟩ v5).setCell ⟨B, 6, none⟩ v6).setCell ⟨B, 7, none⟩ v7).heap[B]? = some (.cells #[v0, v1, v2, v3, v4, v5, v6, v7] t (0, 0)) := by
  have a0 := blk_set h 0 v0
  rw [show (#[c0, c1, c2, c3, c4, c5, c6, c7] : Array Value).setIfInBounds 0 v0 = #[v0, c1, c2, c3, c4, c5, c6, c7] from rfl] at a0
  have a1 := blk_set a0 1 v1
  rw [show (#[v0, c1, c2, c3, c4, c5, c6, c7] : Array Value).setIfInBounds 1 v1 = #[v0, v1, c2, c3, c4, c5, c6, c7] from rfl] at a1
  have a2 := blk_set a1 2 v2
  rw [show (#[v0, v1, c2, c3, c4, c5, c6, c7] : Array Value).setIfInBounds 2 v2 = #[v0, v1, v2, c3, c4, c5, c6, c7] from rfl] at a2
  have a3 := blk_set a2 3 v3
  rw [show (#[v0, v1, v2, c3, c4, c5, c6, c7] : Array Value).setIfInBounds 3 v3 = #[v0, v1, v2, v3, c4, c5, c6, c7] from rfl] at a3
  have a4 := blk_set a3 4 v4
  rw [show (#[v0, v1, v2, v3, c4, c5, c6, c7] : Array Value).setIfInBounds 4 v4 = #[v0, v1, v2, v3, v4, c5, c6, c7] from rfl] at a4
  have a5 := blk_set a4 5 v5
  rw [show (#[v0, v1, v2, v3, v4, c5, c6, c7] : Array Value).setIfInBounds 5 v5 = #[v0, v1, v2, v3, v4, v5, c6, c7] from rfl] at a5
  have a6 := blk_set a5 6 v6
  rw [show (#[v0, v1, v2, v3, v4, v5, c6, c7] : Array Value).setIfInBounds 6 v6 = #[v0, v1, v2, v3, v4, v5, v6, c7] from rfl] at a6
  have a7 := blk_set a6 7 v7
  rw [show (#[v0, v1, v2, v3, v4, v5, v6, c7] : Array Value).setIfInBounds 7 v7 = #[v0, v1, v2, v3, v4, v5, v6, v7] from rfl] at a7
  exact a7
theorem setC_os (W : World) (a : Addr) (v : Value) : (W.setCell a v).os = W.os := rfl
theorem setC_tape (W : World) (a : Addr) (v : Value) : (W.setCell a v).tape = W.tape := rfl
theorem setC_output (W : World) (a : Addr) (v : Value) : (W.setCell a v).output = W.output := rfl
theorem setC_size (W : World) (a : Addr) (v : Value) : (W.setCell a v).heap.size = W.heap.size := by simp [World.setCell]
/-- block B has these eight cells now, all else is as it was -/
structure Put8 (W : World) (B : Nat) (t : TypeId) (v0 v1 v2 v3 v4 v5 v6 v7 : Value) (w' : World) : Prop where
  blk : w'.heap[B]? = some (.cells #[v0, v1, v2, v3, v4, v5, v6, v7] t (0, 0))
  far : ∀ k, k ≠ B → w'.heap[k]? = W.heap[k]?
  size : w'.heap.size = W.heap.size
  os : w'.os = W.os
  tape : w'.tape = W.tape
  output : w'.output = W.output
theorem put8 {W : World} {B : Nat} {c0 c1 c2 c3 c4 c5 c6 c7 : Value} {t : TypeId} (h : W.heap[B]? = some (.cells #[c0, c1, c2, c3, c4, c5, c6, c7] t (0, 0))) (v0 v1 v2 v3 v4 v5 v6 v7 : Value) :
    Put8 W B t v0 v1 v2 v3 v4 v5 v6 v7 ((((((((W.setCell ⟨B, 0, none⟩ v0).setCell ⟨B, 1, none⟩ v1).setCell ⟨B, 2, none⟩ v2).setCell ⟨B, 3, none⟩ v3).setCell ⟨B, 4, none⟩ v4).setCell ⟨B, 5, none⟩ v5).setCell ⟨B, 6, none⟩ v6).setCell ⟨B, 7, none⟩ v7) :=
  ⟨put8b h v0 v1 v2 v3 v4 v5 v6 v7, fun k hk => by rw [blk_far hk, blk_far hk, blk_far hk, blk_far hk, blk_far hk, blk_far hk, blk_far hk, blk_far hk], by simp only [setC_size], by simp only [setC_os], by simp only [setC_tape], by simp only [setC_output]⟩
theorem results_ob1 {fn : Func} {i : Nat} (hfn : fn.results = #[.cell i 27]) (tmps : Array Value) (W : World) (B : Nat) {c0 c1 c2 c3 c4 c5 c6 c7 : Value} {t : TypeId} (hp : tmps.getD i undef = .pointer (some ⟨B, 0, none⟩)) (h : W.heap[B]? = some (.cells #[c0, c1, c2, c3, c4, c5, c6, c7] t (0, 0))) :
    (results fn tmps).run Tryz.prog W = .ok (.agg #[c0, c1, c2, c3, c4, c5, c6, c7]) W := by
  have h0 : W.cell? ⟨B, 0, none⟩ = some c0 := blk_cell h 0
  have h1 : W.cell? ⟨B, 1, none⟩ = some c1 := blk_cell h 1
  have h2 : W.cell? ⟨B, 2, none⟩ = some c2 := blk_cell h 2
  have h3 : W.cell? ⟨B, 3, none⟩ = some c3 := blk_cell h 3
  have h4 : W.cell? ⟨B, 4, none⟩ = some c4 := blk_cell h 4
  have h5 : W.cell? ⟨B, 5, none⟩ = some c5 := blk_cell h 5
  have h6 : W.cell? ⟨B, 6, none⟩ = some c6 := blk_cell h 6
  have h7 : W.cell? ⟨B, 7, none⟩ = some c7 := blk_cell h 7
  have hp2 : tmps[i]?.getD undef = .pointer (some ⟨B, 0, none⟩) := by rw [← hp]; simp
  simp [results, hfn, go_sem, hp2, h0, h1, h2, h3, h4, h5, h6, h7]
theorem results_ob2 {fn : Func} {i j : Nat} (hfn : fn.results = #[.cell i 27, .tmp j]) (tmps : Array Value) (W : World) (B : Nat) {c0 c1 c2 c3 c4 c5 c6 c7 v : Value} {t : TypeId} (hp : tmps.getD i undef = .pointer (some ⟨B, 0, none⟩)) (hv : tmps.getD j undef = v) (h : W.heap[B]? = some (.cells #[c0, c1, c2, c3, c4, c5, c6, c7] t (0, 0))) :
    (results fn tmps).run Tryz.prog W = .ok (.tuple #[.agg #[c0, c1, c2, c3, c4, c5, c6, c7], v]) W := by
  have h0 : W.cell? ⟨B, 0, none⟩ = some c0 := blk_cell h 0
  have h1 : W.cell? ⟨B, 1, none⟩ = some c1 := blk_cell h 1
  have h2 : W.cell? ⟨B, 2, none⟩ = some c2 := blk_cell h 2
  have h3 : W.cell? ⟨B, 3, none⟩ = some c3 := blk_cell h 3
  have h4 : W.cell? ⟨B, 4, none⟩ = some c4 := blk_cell h 4
  have h5 : W.cell? ⟨B, 5, none⟩ = some c5 := blk_cell h 5
  have h6 : W.cell? ⟨B, 6, none⟩ = some c6 := blk_cell h 6
  have h7 : W.cell? ⟨B, 7, none⟩ = some c7 := blk_cell h 7
  have hp2 : tmps[i]?.getD undef = .pointer (some ⟨B, 0, none⟩) := by rw [← hp]; simp
  have hv2 : tmps[j]?.getD undef = v := by rw [← hv]; simp
  simp [results, hfn, go_sem, hp2, hv2, h0, h1, h2, h3, h4, h5, h6, h7]
end Go.Proofs.YtfilbfenpdaahaaGreatDoor
