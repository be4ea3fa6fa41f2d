/-
  What a store holds in memory: things in a row, their bytes, items and pairs in rows of their own; plain lists behind it.
-/
import Derived.Test.YtfilbfenpdaahaaGreatDoorRows
import Derived.WalkKit
import Derived.WalkSpells
import Derived.WalkLawsBesides
import Derived.BigQuiet
import Derived.Deep.QuietTactic
import Derived.Deep.LoopGhost
import Derived.Lib.Hide
import Derived.Below
import Derived.Deep.AppendLies
import Derived.Laws.OwnMore
namespace Go.Proofs.YtfilbfenpdaahaaGreatDoor
open Go.RowKit
namespace St
/-- an object, plainly -/
structure Ob where
  kind : Int
  exec : Bool
  acc : Int
  n : Int
  name : ByteArray
  ref : Int
  frm : Int
  len : Int
def Ob.cells (o : Ob) : List Value := [.int .i64 o.kind, .bool o.exec, .int .i64 o.acc, .int .i64 o.n, .string o.name, .int .i64 o.ref, .int .i64 o.frm, .int .i64 o.len]
def Ob.val (o : Ob) : Value := .agg #[.int .i64 o.kind, .bool o.exec, .int .i64 o.acc, .int .i64 o.n, .string o.name, .int .i64 o.ref, .int .i64 o.frm, .int .i64 o.len]
/-- null -/
def nul : Ob := ⟨0, false, 0, 0, ⟨#[]⟩, 0, 0, 0⟩
/-- a string, an array or a dictionary, plainly -/
structure Th where
  kind : Int
  bytes : List UInt8
  items : List Ob
  pairs : List (Ob × Ob)
  most : Int
  acc : Int
def Th.length (t : Th) : Nat := if t.kind = 6 then t.bytes.length else if t.kind = 7 then t.items.length else 0
/-- where its rows are -/
structure Lay where
  b : Value
  i : Value
  p : Value
def bv (c : UInt8) : Value := .int .u8 c.toNat
def slotC (o : Ob) : List Value := [.int .i64 o.kind, .bool o.exec, .int .i64 o.acc, .int .i64 o.n, .string o.name, .int .i64 o.ref, .int .i64 o.frm, .int .i64 o.len, .int .i64 0]
def pairC (p : Ob × Ob) : List Value := p.1.cells ++ slotC p.2
def thC (r : Nat) (x : Th × Lay) : List Value := [.int .i64 (r + 1 : Nat), .int .i64 x.1.kind, x.2.b, x.2.i, x.2.p, .int .i64 x.1.most, .int .i64 x.1.acc]
def thsC : Nat → List (Th × Lay) → List Value
  | _, [] => []
  | r, x :: G => thC r x ++ thsC (r + 1) G
theorem thsC_length : ∀ (G : List (Th × Lay)) (r : Nat), (thsC r G).length = G.length * 7
  | [], _ => rfl
  | x :: G, r => by rw [thsC, List.length_append, thsC_length G]; simp [thC]; omega
theorem thsC_at : ∀ (G : List (Th × Lay)) (r i f : Nat) (x : Th × Lay), G[i]? = some x → f < 7 → (thsC r G)[i * 7 + f]? = (thC (r + i) x)[f]?
  | [], _, i, f, x, h, _ => by simp at h
  | y :: G, r, 0, f, x, h, hf => by
    simp at h; subst h
    rw [thsC, List.getElem?_append_left (by simp [thC]; omega)]; simp
  | y :: G, r, i + 1, f, x, h, hf => by
    rw [thsC, List.getElem?_append_right (by simp [thC]; omega)]
    have e : (i + 1) * 7 + f - (thC r y).length = i * 7 + f := by simp [thC]; omega
    rw [e, thsC_at G (r + 1) i f x (by simpa using h) hf, show r + (i + 1) = r + 1 + i by omega]
theorem thsC_append : ∀ (G H : List (Th × Lay)) (r : Nat), thsC r (G ++ H) = thsC r G ++ thsC (r + G.length) H
  | [], H, r => by simp [thsC]
  | x :: G, H, r => by
    rw [List.cons_append, thsC, thsC, thsC_append G H, List.append_assoc, List.length_cons, show r + 1 + G.length = r + (G.length + 1) by omega]
def isB (v : Value) (k : Nat) : Prop := v.ownBlock = some k
/-- a thing's rows -/
structure ThR (O : Nat → Prop) (w : World) (t : Th) (l : Lay) : Prop where
  rb : w.ownsRow 0 5 1 l.b t.bytes.length (t.bytes.map bv)
  ri : w.ownsRow 0 110 9 l.i t.items.length (t.items.flatMap slotC)
  rp : w.ownsRow 0 112 17 l.p t.pairs.length (t.pairs.flatMap pairC)
  ob : ∀ k, isB l.b k → O k
  oi : ∀ k, isB l.i k → O k
  op : ∀ k, isB l.p k → O k
  nb : t.bytes.length ≤ 65535
  ni : t.items.length ≤ 65535
  np : t.pairs.length ≤ 4096
  nm : (t.pairs.length : Int) ≤ t.most ∧ t.most ≤ 4096
def apartL (l m : Lay) : Prop := ∀ k, (isB l.b k → ¬ isB m.b k) ∧ (isB l.i k → ¬ isB m.i k) ∧ (isB l.p k → ¬ isB m.p k)
/-- the store at block s: so many cells left, these things -/
structure Rep (O : Nat → Prop) (w : World) (s : Nat) (fr : Int) (G : List (Th × Lay)) : Prop where
  os : O s
  olt : ∀ k, O k → k < w.heap.size
  blk : ∃ (tv : Value) (am : Option Addr) (cm : Nat) (ac : Option Addr) (cc : Nat), w.heap[s]? = some (.cells #[tv, .int .i64 G.length, .int .i64 fr, .slice am 0 cm, .int .i64 0, .slice ac 0 cc] 63 (0, 0)) ∧
    w.ownsRow 0 69 7 tv G.length (thsC 0 G) ∧ ∀ k, isB tv k → O k
  row : ∀ (i : Nat) (x : Th × Lay), G[i]? = some x → ThR O w x.1 x.2
  apart : ∀ (i j : Nat) (x y : Th × Lay), i ≠ j → G[i]? = some x → G[j]? = some y → apartL x.2 y.2
  fr0 : 0 ≤ fr
  few : G.length + fr ≤ 1048576
/-- of the blocks of w none has turned but those in O -/
structure Frm (O : Nat → Prop) (w w' : World) : Prop where
  os : w'.os = w.os
  tape : w'.tape = w.tape
  output : w'.output = w.output
  size : w.heap.size ≤ w'.heap.size
  block : ∀ k, k < w.heap.size → ¬ O k → w'.heap[k]? = w.heap[k]?
/-- what is one's own, or new -/
def Up (O : Nat → Prop) (w w' : World) : Nat → Prop := fun k => O k ∨ (w.heap.size ≤ k ∧ k < w'.heap.size)
theorem Frm.refl (O : Nat → Prop) (w : World) : Frm O w w := ⟨rfl, rfl, rfl, Nat.le_refl _, fun _ _ _ => rfl⟩
theorem Frm.of_below {O : Nat → Prop} {w w' : World} (h : Below w.heap.size w w') : Frm O w w' := ⟨h.os, h.tape, h.output, h.size, fun k hk _ => h.block k hk⟩
theorem Frm.below {O : Nat → Prop} {B : Nat} {w w' : World} (h : Frm O w w') (hB : B ≤ w.heap.size) (hO : ∀ k, k < B → ¬ O k) : Below B w w' := ⟨h.os, h.tape, h.output, h.size, fun k hk => h.block k (by omega) (hO k hk)⟩
theorem Frm.trans {O : Nat → Prop} {u v w : World} (h : Frm O u v) (k : Frm (Up O u v) v w) : Frm O u w :=
  ⟨k.os.trans h.os, k.tape.trans h.tape, k.output.trans h.output, Nat.le_trans h.size k.size, fun i hi hb => (k.block i (Nat.lt_of_lt_of_le hi h.size) (fun e => by rcases e with e | e; exact hb e; omega)).trans (h.block i hi hb)⟩
theorem Frm.mono {O O' : Nat → Prop} {u v : World} (h : Frm O u v) (hO : ∀ k, k < u.heap.size → O k → O' k) : Frm O' u v :=
  ⟨h.os, h.tape, h.output, h.size, fun i hi hb => h.block i hi (fun e => hb (hO i hi e))⟩
theorem owns_same {w w' : World} {base n size : Nat} {e : TypeId} {v : Value} {xs : List Value} (h : w.ownsRow base e size v n xs) (hk : ∀ k, isB v k → w'.heap[k]? = w.heap[k]?) : w'.ownsRow base e size v n xs := by
  refine ⟨h.1, ?_⟩
  rcases h.2 with h0 | ⟨g, cap, cur, rfl, hb, hg, hr⟩
  · exact .inl h0
  · exact .inr ⟨g, cap, cur, rfl, hb, (hk g rfl).trans hg, hr⟩
theorem owns_lt {w : World} {base n size : Nat} {e : TypeId} {v : Value} {xs : List Value} (h : w.ownsRow base e size v n xs) {k : Nat} (hk : isB v k) : k < w.heap.size := (h.lt k hk).2
theorem ThR.same {O : Nat → Prop} {w w' : World} {t : Th} {l : Lay} (h : ThR O w t l) (hk : ∀ k, (isB l.b k ∨ isB l.i k ∨ isB l.p k) → w'.heap[k]? = w.heap[k]?) : ThR O w' t l :=
  ⟨owns_same h.rb (fun k hb => hk k (.inl hb)), owns_same h.ri (fun k hb => hk k (.inr (.inl hb))), owns_same h.rp (fun k hb => hk k (.inr (.inr hb))), h.ob, h.oi, h.op, h.nb, h.ni, h.np, h.nm⟩
theorem ThR.mono {O O' : Nat → Prop} {w : World} {t : Th} {l : Lay} (h : ThR O w t l) (hO : ∀ k, k < w.heap.size → O k → O' k) : ThR O' w t l :=
  ⟨h.rb, h.ri, h.rp, fun k hk => hO k (owns_lt h.rb hk) (h.ob k hk), fun k hk => hO k (owns_lt h.ri hk) (h.oi k hk), fun k hk => hO k (owns_lt h.rp hk) (h.op k hk), h.nb, h.ni, h.np, h.nm⟩
theorem ThR.lt {O : Nat → Prop} {w : World} {t : Th} {l : Lay} (h : ThR O w t l) {k : Nat} (hk : isB l.b k ∨ isB l.i k ∨ isB l.p k) : k < w.heap.size := by
  rcases hk with hk | hk | hk
  · exact owns_lt h.rb hk
  · exact owns_lt h.ri hk
  · exact owns_lt h.rp hk
theorem Rep.lt {O : Nat → Prop} {w : World} {s : Nat} {fr : Int} {G : List (Th × Lay)} (h : Rep O w s fr G) : s < w.heap.size := by
  obtain ⟨tv, am, cm, ac, cc, hb, _⟩ := h.blk
  exact (Array.getElem?_eq_some_iff.1 hb).1
/-- where none of its blocks has turned the store is as it was -/
theorem Rep.same {O : Nat → Prop} {w w' : World} {s : Nat} {fr : Int} {G : List (Th × Lay)} (h : Rep O w s fr G) (hz : w.heap.size ≤ w'.heap.size) (hk : ∀ k, k < w.heap.size → O k → w'.heap[k]? = w.heap[k]?) : Rep O w' s fr G := by
  obtain ⟨tv, am, cm, ac, cc, hb, ht, ho⟩ := h.blk
  refine ⟨h.os, fun k ho => Nat.lt_of_lt_of_le (h.olt k ho) hz, ⟨tv, am, cm, ac, cc, (hk s h.lt h.os).trans hb, owns_same ht (fun k hk2 => hk k (owns_lt ht hk2) (ho k hk2)), ho⟩, fun i x hx => ?_, h.apart, h.fr0, h.few⟩
  have hr := h.row i x hx
  exact hr.same (fun k hk2 => hk k (hr.lt hk2) (by rcases hk2 with e | e | e; exact hr.ob k e; exact hr.oi k e; exact hr.op k e))
theorem Rep.mono {O O' : Nat → Prop} {w : World} {s : Nat} {fr : Int} {G : List (Th × Lay)} (h : Rep O w s fr G) (hO : ∀ k, k < w.heap.size → O k → O' k) (hl : ∀ k, O' k → k < w.heap.size) : Rep O' w s fr G := by
  obtain ⟨tv, am, cm, ac, cc, hb, ht, ho⟩ := h.blk
  exact ⟨hO s h.lt h.os, hl, ⟨tv, am, cm, ac, cc, hb, ht, fun k hk => hO k (owns_lt ht hk) (ho k hk)⟩, fun i x hx => (h.row i x hx).mono hO, h.apart, h.fr0, h.few⟩
theorem Rep.below {O : Nat → Prop} {w w' : World} {s : Nat} {fr : Int} {G : List (Th × Lay)} (h : Rep O w s fr G) (hb : Below w.heap.size w w') : Rep O w' s fr G := h.same hb.size (fun k hk _ => hb.block k hk)
/-- a thing's cells -/
theorem Rep.cells {O : Nat → Prop} {w : World} {s : Nat} {fr : Int} {G : List (Th × Lay)} (h : Rep O w s fr G) :
    ∃ (tv : Value) (am : Option Addr) (cm : Nat) (ac : Option Addr) (cc : Nat), (w.cell? ⟨s, 0, none⟩ = some tv ∧ w.cell? ⟨s, 1, none⟩ = some (.int .i64 G.length) ∧ w.cell? ⟨s, 2, none⟩ = some (.int .i64 fr) ∧ w.cell? ⟨s, 3, none⟩ = some (.slice am 0 cm) ∧ w.cell? ⟨s, 4, none⟩ = some (.int .i64 0) ∧ w.cell? ⟨s, 5, none⟩ = some (.slice ac 0 cc)) ∧
      ((tv = .slice none 0 0 ∧ G = []) ∨ ∃ g cap, tv = .slice (some ⟨g, 0, none⟩) G.length cap ∧ g < w.heap.size ∧ G.length ≤ cap ∧ (∀ o, w.frozen? ⟨g, o, none⟩ = false) ∧ ∀ (i f : Nat) (x : Th × Lay), G[i]? = some x → f < 7 → w.cell? ⟨g, i * 7 + f, none⟩ = (thC i x)[f]?) ∧ ∀ o, w.frozen? ⟨s, o, none⟩ = false := by
  obtain ⟨tv, am, cm, ac, cc, hb, ht, ho⟩ := h.blk
  have hc : ∀ f, w.cell? ⟨s, f, none⟩ = (#[tv, .int .i64 G.length, .int .i64 fr, .slice am 0 cm, .int .i64 0, .slice ac 0 cc] : Array Value)[f]? := fun f => by simp [World.cell?, hb]
  refine ⟨tv, am, cm, ac, cc, ⟨hc 0, hc 1, hc 2, hc 3, hc 4, hc 5⟩, ?_, fun o => by simp [World.frozen?, hb]⟩
  rcases ht.2 with ⟨rfl, hn⟩ | ⟨g, cap, cur, rfl, _, hg, hnc, _⟩
  · exact .inl ⟨rfl, List.eq_nil_of_length_eq_zero hn⟩
  · refine .inr ⟨g, cap, rfl, (Array.getElem?_eq_some_iff.1 hg).1, hnc, fun o => ht.frozenAt o, fun i f x hx hf => ?_⟩
    have hi : i < G.length := (List.getElem?_eq_some_iff.1 hx).1
    rw [ht.cellAt (i * 7 + f) (by omega), thsC_at G 0 i f x hx hf, Nat.zero_add]
end St
end Go.Proofs.YtfilbfenpdaahaaGreatDoor
