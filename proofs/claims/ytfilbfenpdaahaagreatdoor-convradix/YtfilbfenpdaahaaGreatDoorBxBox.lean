/-
  Boxes and a store between two calls: what has not turned.
-/
import Derived.Test.YtfilbfenpdaahaaGreatDoorStoPut3
import Derived.Test.YtfilbfenpdaahaaGreatDoorStkRow
namespace Go.Proofs.YtfilbfenpdaahaaGreatDoor
open Go.RowKit
open St
open Stk
namespace Col
/-- objects in a new block from N on -/
def Hnd (N : Nat) (p : Option Addr) (l : List Ob) (w : World) : Prop := l = [] ∨ ∃ B, p = some ⟨B, 0, none⟩ ∧ N ≤ B ∧ B < w.heap.size ∧ ∀ j z, (l.flatMap Ob.cells)[j]? = some z → w.cell? ⟨B, j, none⟩ = some z
theorem Hnd.frm {N M : Nat} {p : Option Addr} {l : List Ob} {w w' : World} (h : Hnd N p l w) (hb : ∀ k, N ≤ k → k < w.heap.size → w'.heap[k]? = w.heap[k]?) (hz : w.heap.size ≤ w'.heap.size) (hM : M ≤ N) : Hnd M p l w' := by
  rcases h with h | ⟨B, e, h1, h2, hc⟩
  · exact .inl h
  · exact .inr ⟨B, e, by omega, by omega, fun j z hz => (World.cell?_of_block (w := w) (hb B h1 h2)).trans (hc j z hz)⟩
theorem Hnd.src {N : Nat} {p : Option Addr} {l : List Ob} {w : World} (h : Hnd N p l w) : SrcO w p l := by
  rcases h with h | ⟨B, e, h1, h2, hc⟩
  · exact .inl h
  · exact .inr ⟨_, e, fun j z hz => by rw [Addr.add_lit, Nat.zero_add]; exact hc j z hz⟩
theorem hnd_of {N : Nat} {l : List Ob} {w : World} {c : Array Value} {t : TypeId} (hN : N ≤ w.heap.size) (hc : c.toList = l.flatMap Ob.cells) : Hnd N (some ⟨w.heap.size, 0, none⟩) l (w.alloc (.cells c t)) := by
  refine .inr ⟨_, rfl, hN, by simp, fun j z hz => ?_⟩
  rw [blk_cell (heap_alloc_new w _) j, ← hz, ← hc]
  simp
/-- what stands between two calls: only one's own blocks have turned since w0, and these boxes hold these objects -/
def Bx (O : Nat → Prop) (w0 : World) (l : List (Nat × Obj)) (w : World) : Prop := Frm O w0 w ∧ ∀ p ∈ l, ¬ O p.1 ∧ w.heap[p.1]? = some p.2
theorem Bx.below {O : Nat → Prop} {w0 w w' : World} {l : List (Nat × Obj)} (h : Bx O w0 l w) (hb : Below w.heap.size w w') : Bx O w0 l w' := by
  refine ⟨⟨hb.os.trans h.1.os, hb.tape.trans h.1.tape, hb.output.trans h.1.output, Nat.le_trans h.1.size hb.size, fun k hk hO => (hb.block k (Nat.lt_of_lt_of_le hk h.1.size)).trans (h.1.block k hk hO)⟩, fun p hp => ⟨(h.2 p hp).1, ?_⟩⟩
  have h1 := (h.2 p hp).2
  exact (hb.block _ (Array.getElem?_eq_some_iff.1 h1).1).trans h1
theorem Bx.frm {O : Nat → Prop} {w0 w w' : World} {l : List (Nat × Obj)} (h : Bx O w0 l w) (hF : Frm O w w') : Bx O w0 l w' := by
  refine ⟨⟨hF.os.trans h.1.os, hF.tape.trans h.1.tape, hF.output.trans h.1.output, Nat.le_trans h.1.size hF.size, fun k hk hO => (hF.block k (Nat.lt_of_lt_of_le hk h.1.size) hO).trans (h.1.block k hk hO)⟩, fun p hp => ⟨(h.2 p hp).1, ?_⟩⟩
  have h1 := (h.2 p hp).2
  exact (hF.block _ (Array.getElem?_eq_some_iff.1 h1).1 (h.2 p hp).1).trans h1
theorem Bx.drews {O : Nat → Prop} {w0 w : World} {l : List (Nat × Obj)} (h : Bx O w0 l w) (q : Nat) : Bx O w0 l (w.drewN q) := h.below ⟨rfl, rfl, rfl, Nat.le_refl _, fun _ _ => rfl⟩
theorem Bx.refl (O : Nat → Prop) (w : World) : Bx O w [] w := ⟨Frm.refl O w, fun p hp => by cases hp⟩
theorem Bx.alloc {O : Nat → Prop} {w0 w : World} {l : List (Nat × Obj)} (h : Bx O w0 l w) (o : Obj) (hO : ∀ k, O k → k < w.heap.size) : Bx O w0 ((w.heap.size, o) :: l) (w.alloc o) := by
  have h1 := h.below (below1 w o)
  refine ⟨h1.1, fun p hp => ?_⟩
  rcases List.mem_cons.1 hp with e | e
  · rw [e]; exact ⟨fun e => Nat.lt_irrefl _ (hO _ e), heap_alloc_new w o⟩
  · exact h1.2 p e
theorem Bx.box {O : Nat → Prop} {w0 w : World} {l : List (Nat × Obj)} (h : Bx O w0 l w) (p : Nat × Obj) (hp : p ∈ l) : w.heap[p.1]? = some p.2 := (h.2 p hp).2
theorem Bx.b0 {O : Nat → Prop} {w0 w : World} {k : Nat} {o : Obj} {l : List (Nat × Obj)} (h : Bx O w0 ((k, o) :: l) w) : w.heap[k]? = some o := (h.2 (k, o) (by simp)).2
theorem Bx.b1 {O : Nat → Prop} {w0 w : World} {k : Nat} {o : Obj} {a : Nat × Obj} {l : List (Nat × Obj)} (h : Bx O w0 (a :: (k, o) :: l) w) : w.heap[k]? = some o := (h.2 (k, o) (by simp)).2
theorem Bx.b2 {O : Nat → Prop} {w0 w : World} {k : Nat} {o : Obj} {a b : Nat × Obj} {l : List (Nat × Obj)} (h : Bx O w0 (a :: b :: (k, o) :: l) w) : w.heap[k]? = some o := (h.2 (k, o) (by simp)).2
theorem Bx.b3 {O : Nat → Prop} {w0 w : World} {k : Nat} {o : Obj} {a b c : Nat × Obj} {l : List (Nat × Obj)} (h : Bx O w0 (a :: b :: c :: (k, o) :: l) w) : w.heap[k]? = some o := (h.2 (k, o) (by simp)).2
theorem Bx.b4 {O : Nat → Prop} {w0 w : World} {k : Nat} {o : Obj} {a b c d : Nat × Obj} {l : List (Nat × Obj)} (h : Bx O w0 (a :: b :: c :: d :: (k, o) :: l) w) : w.heap[k]? = some o := (h.2 (k, o) (by simp)).2
theorem Bx.b5 {O : Nat → Prop} {w0 w : World} {k : Nat} {o : Obj} {a b c d e : Nat × Obj} {l : List (Nat × Obj)} (h : Bx O w0 (a :: b :: c :: d :: e :: (k, o) :: l) w) : w.heap[k]? = some o := (h.2 (k, o) (by simp)).2
theorem Bx.toBelow {w0 w : World} {l : List (Nat × Obj)} (h : Bx (fun _ => False) w0 l w) : Below w0.heap.size w0 w := ⟨h.1.os, h.1.tape, h.1.output, h.1.size, fun k hk => h.1.block k hk (fun e => e)⟩
theorem bx1 {O : Nat → Prop} (w : World) (a : Obj) (hO : ∀ k, O k → k < w.heap.size) : Bx O w [(w.heap.size, a)] (w.alloc a) := (Bx.refl O w).alloc a hO
theorem bx2 {O : Nat → Prop} (w : World) (a b : Obj) (hO : ∀ k, O k → k < w.heap.size) : Bx O w [(w.heap.size + 1, b), (w.heap.size, a)] ((w.alloc a).alloc b) := by
  have := ((Bx.refl O w).alloc a hO).alloc b (fun k hk => by have := hO k hk; simp; omega)
  simpa using this
theorem bx3 {O : Nat → Prop} (w : World) (a b c : Obj) (hO : ∀ k, O k → k < w.heap.size) : Bx O w [(w.heap.size + 1 + 1, c), (w.heap.size + 1, b), (w.heap.size, a)] (((w.alloc a).alloc b).alloc c) := by
  have := (bx2 w a b hO).alloc c (fun k hk => by have := hO k hk; simp; omega)
  simpa using this
theorem bx4 {O : Nat → Prop} (w : World) (a b c d : Obj) (hO : ∀ k, O k → k < w.heap.size) : Bx O w [(w.heap.size + 1 + 1 + 1, d), (w.heap.size + 1 + 1, c), (w.heap.size + 1, b), (w.heap.size, a)] ((((w.alloc a).alloc b).alloc c).alloc d) := by
  have := (bx3 w a b c hO).alloc d (fun k hk => by have := hO k hk; simp; omega)
  simpa using this
/-- the boxes and the store -/
def BR (O : Nat → Prop) (w0 : World) (l : List (Nat × Obj)) (s : Nat) (fr : Int) (G : List (Th × Lay)) (w : World) : Prop := Bx O w0 l w ∧ Rep O w s fr G
theorem BR.below {O : Nat → Prop} {w0 w w' : World} {l : List (Nat × Obj)} {s : Nat} {fr : Int} {G : List (Th × Lay)} (h : BR O w0 l s fr G w) (hb : Below w.heap.size w w') : BR O w0 l s fr G w' := ⟨h.1.below hb, h.2.below hb⟩
theorem BR.alloc {O : Nat → Prop} {w0 w : World} {l : List (Nat × Obj)} {s : Nat} {fr : Int} {G : List (Th × Lay)} (h : BR O w0 l s fr G w) (o : Obj) : BR O w0 ((w.heap.size, o) :: l) s fr G (w.alloc o) := ⟨h.1.alloc o h.2.olt, h.2.below (below1 w o)⟩
theorem BR.put {O : Nat → Prop} {w0 w w' : World} {l : List (Nat × Obj)} {s : Nat} {fr fr' : Int} {G G' : List (Th × Lay)} (h : BR O w0 l s fr G w) (hF : Frm O w w') (hR : Rep O w' s fr' G') : BR O w0 l s fr' G' w' := ⟨h.1.frm hF, hR⟩
theorem br0 {O : Nat → Prop} {w : World} {s : Nat} {fr : Int} {G : List (Th × Lay)} (h : Rep O w s fr G) : BR O w [] s fr G w := ⟨Bx.refl O w, h⟩
theorem br1 {O : Nat → Prop} {w : World} {s : Nat} {fr : Int} {G : List (Th × Lay)} (h : Rep O w s fr G) (a : Obj) : BR O w [(w.heap.size, a)] s fr G (w.alloc a) := (br0 h).alloc a
theorem br2 {O : Nat → Prop} {w : World} {s : Nat} {fr : Int} {G : List (Th × Lay)} (h : Rep O w s fr G) (a b : Obj) : BR O w [(w.heap.size + 1, b), (w.heap.size, a)] s fr G ((w.alloc a).alloc b) := by
  have := (br1 h a).alloc b
  simpa using this
theorem br3 {O : Nat → Prop} {w : World} {s : Nat} {fr : Int} {G : List (Th × Lay)} (h : Rep O w s fr G) (a b c : Obj) : BR O w [(w.heap.size + 1 + 1, c), (w.heap.size + 1, b), (w.heap.size, a)] s fr G (((w.alloc a).alloc b).alloc c) := by
  have := (br2 h a b).alloc c
  simpa using this
theorem br4 {O : Nat → Prop} {w : World} {s : Nat} {fr : Int} {G : List (Th × Lay)} (h : Rep O w s fr G) (a b c d : Obj) : BR O w [(w.heap.size + 1 + 1 + 1, d), (w.heap.size + 1 + 1, c), (w.heap.size + 1, b), (w.heap.size, a)] s fr G ((((w.alloc a).alloc b).alloc c).alloc d) := by
  have := (br3 h a b c).alloc d
  simpa using this
theorem cellCv {w : World} {B : Nat} {v : Value} {t : TypeId} (h : w.heap[B]? = some (.cells #[v] t (0, 0))) : w.cell? ⟨B, 0, none⟩ = some v := blk_cell h 0
/-- the objects at a plain address -/
theorem SrcO.plain {w : World} {a : Option Addr} {l : List Ob} (h : SrcO w a l) (hl : l ≠ []) : ∃ b o, a = some ⟨b, o, none⟩ ∧ b < w.heap.size ∧ ∀ j z, (l.flatMap Ob.cells)[j]? = some z → w.cell? ⟨b, o + j, none⟩ = some z := by
  rcases h with h | ⟨ad, e, hc⟩
  · exact absurd h hl
  · obtain ⟨x, t, rfl⟩ := List.exists_cons_of_ne_nil hl
    have h0 := hc 0 (.int .i64 x.kind) (by simp [Ob.cells])
    have hs := World.cell?_spot h0
    obtain ⟨b, o, sp⟩ := ad
    have hsp : sp = none := by simpa [Addr.add] using hs
    subst hsp
    exact ⟨b, o, e, by have := World.block_lt_of_cell? w _ h0; simpa [Addr.add] using this, fun j z hz => by have := hc j z hz; rwa [Addr.add_lit] at this⟩
theorem ob_cells {w : World} {b o i : Nat} {l : List Ob} {x : Ob} (h : ∀ j z, (l.flatMap Ob.cells)[j]? = some z → w.cell? ⟨b, o + j, none⟩ = some z) (hx : l[i]? = some x) :
    w.cell? ⟨b, o + i * 8, none⟩ = some (.int .i64 x.kind) ∧ w.cell? ⟨b, o + i * 8 + 1, none⟩ = some (.bool x.exec) ∧ w.cell? ⟨b, o + i * 8 + 2, none⟩ = some (.int .i64 x.acc) ∧ w.cell? ⟨b, o + i * 8 + 3, none⟩ = some (.int .i64 x.n) ∧
    w.cell? ⟨b, o + i * 8 + 4, none⟩ = some (.string x.name) ∧ w.cell? ⟨b, o + i * 8 + 5, none⟩ = some (.int .i64 x.ref) ∧ w.cell? ⟨b, o + i * 8 + 6, none⟩ = some (.int .i64 x.frm) ∧ w.cell? ⟨b, o + i * 8 + 7, none⟩ = some (.int .i64 x.len) := by
  have hf : ∀ f z, f < 8 → x.cells[f]? = some z → w.cell? ⟨b, o + i * 8 + f, none⟩ = some z := fun f z hf hz => by
    have := h (i * 8 + f) z (by rw [obs_at l i f x hx hf]; exact hz)
    rwa [← Nat.add_assoc] at this
  exact ⟨by simpa using hf 0 _ (by omega) rfl, hf 1 _ (by omega) rfl, hf 2 _ (by omega) rfl, hf 3 _ (by omega) rfl, hf 4 _ (by omega) rfl, hf 5 _ (by omega) rfl, hf 6 _ (by omega) rfl, hf 7 _ (by omega) rfl⟩
end Col
end Go.Proofs.YtfilbfenpdaahaaGreatDoor
