/-
  What a store holds in memory: things in a row, their bytes, items and pairs in rows of their own; plain lists behind it.
Which thing an object tells of, by contracts: lies, length, the search, byRef, told.
The things of a store by their Refs, and by what an object tells, by contracts: upTo, byRef, told.
The thing that an object tells of, by contracts: byRef, told.
-/
import Derived.Test.YtfilbfenpdaahaaGreatDoorRows
import Derived.WalkKit
import Derived.WalkSpells
import Derived.WalkLawsBesides
import Derived.BigQuiet
import Derived.Deep.QuietTactic
import Derived.Deep.LoopGhost
import Derived.Lib.Hide
import Derived.Below
import Derived.Deep.AppendLies
import Derived.Laws.OwnMore
namespace Go.Proofs.YtfilbfenpdaahaaGreatDoor
open Go.RowKit
namespace St
/-- an object, plainly -/
structure Ob where
  kind : Int
  exec : Bool
  acc : Int
  n : Int
  name : ByteArray
  ref : Int
  frm : Int
  len : Int
def Ob.cells (o : Ob) : List Value := [.int .i64 o.kind, .bool o.exec, .int .i64 o.acc, .int .i64 o.n, .string o.name, .int .i64 o.ref, .int .i64 o.frm, .int .i64 o.len]
def Ob.val (o : Ob) : Value := .agg #[.int .i64 o.kind, .bool o.exec, .int .i64 o.acc, .int .i64 o.n, .string o.name, .int .i64 o.ref, .int .i64 o.frm, .int .i64 o.len]
/-- null -/
def nul : Ob := ⟨0, false, 0, 0, ⟨#[]⟩, 0, 0, 0⟩
/-- a string, an array or a dictionary, plainly -/
structure Th where
  kind : Int
  bytes : List UInt8
  items : List Ob
  pairs : List (Ob × Ob)
  most : Int
  acc : Int
def Th.length (t : Th) : Nat := if t.kind = 6 then t.bytes.length else if t.kind = 7 then t.items.length else 0
/-- where its rows are -/
structure Lay where
  b : Value
  i : Value
  p : Value
def bv (c : UInt8) : Value := .int .u8 c.toNat
def slotC (o : Ob) : List Value := [.int .i64 o.kind, .bool o.exec, .int .i64 o.acc, .int .i64 o.n, .string o.name, .int .i64 o.ref, .int .i64 o.frm, .int .i64 o.len, .int .i64 0]
def pairC (p : Ob × Ob) : List Value := p.1.cells ++ slotC p.2
def thC (r : Nat) (x : Th × Lay) : List Value := [.int .i64 (r + 1 : Nat), .int .i64 x.1.kind, x.2.b, x.2.i, x.2.p, .int .i64 x.1.most, .int .i64 x.1.acc]
def thsC : Nat → List (Th × Lay) → List Value
  | _, [] => []
  | r, x :: G => thC r x ++ thsC (r + 1) G
theorem thsC_length : ∀ (G : List (Th × Lay)) (r : Nat), (thsC r G).length = G.length * 7
  | [], _ => rfl
  | x :: G, r => by rw [thsC, List.length_append, thsC_length G]; simp [thC]; omega
theorem thsC_at : ∀ (G : List (Th × Lay)) (r i f : Nat) (x : Th × Lay), G[i]? = some x → f < 7 → (thsC r G)[i * 7 + f]? = (thC (r + i) x)[f]?
  | [], _, i, f, x, h, _ => by simp at h
  | y :: G, r, 0, f, x, h, hf => by
    simp at h; subst h
    rw [thsC, List.getElem?_append_left (by simp [thC]; omega)]; simp
  | y :: G, r, i + 1, f, x, h, hf => by
    rw [thsC, List.getElem?_append_right (by simp [thC]; omega)]
    have e : (i + 1) * 7 + f - (thC r y).length = i * 7 + f := by simp [thC]; omega
    rw [e, thsC_at G (r + 1) i f x (by simpa using h) hf, show r + (i + 1) = r + 1 + i by omega]
theorem thsC_append : ∀ (G H : List (Th × Lay)) (r : Nat), thsC r (G ++ H) = thsC r G ++ thsC (r + G.length) H
  | [], H, r => by simp [thsC]
  | x :: G, H, r => by
    rw [List.cons_append, thsC, thsC, thsC_append G H, List.append_assoc, List.length_cons, show r + 1 + G.length = r + (G.length + 1) by omega]
def isB (v : Value) (k : Nat) : Prop := v.ownBlock = some k
/-- a thing's rows -/
structure ThR (O : Nat → Prop) (w : World) (t : Th) (l : Lay) : Prop where
  rb : w.ownsRow 0 5 1 l.b t.bytes.length (t.bytes.map bv)
  ri : w.ownsRow 0 110 9 l.i t.items.length (t.items.flatMap slotC)
  rp : w.ownsRow 0 112 17 l.p t.pairs.length (t.pairs.flatMap pairC)
  ob : ∀ k, isB l.b k → O k
  oi : ∀ k, isB l.i k → O k
  op : ∀ k, isB l.p k → O k
  nb : t.bytes.length ≤ 65535
  ni : t.items.length ≤ 65535
  np : t.pairs.length ≤ 4096
  nm : (t.pairs.length : Int) ≤ t.most ∧ t.most ≤ 4096
def apartL (l m : Lay) : Prop := ∀ k, (isB l.b k → ¬ isB m.b k) ∧ (isB l.i k → ¬ isB m.i k) ∧ (isB l.p k → ¬ isB m.p k)
/-- the store at block s: so many cells left, these things -/
structure Rep (O : Nat → Prop) (w : World) (s : Nat) (fr : Int) (G : List (Th × Lay)) : Prop where
  os : O s
  olt : ∀ k, O k → k < w.heap.size
  blk : ∃ (tv : Value) (am : Option Addr) (cm : Nat) (ac : Option Addr) (cc : Nat), w.heap[s]? = some (.cells #[tv, .int .i64 G.length, .int .i64 fr, .slice am 0 cm, .int .i64 0, .slice ac 0 cc] 63 (0, 0)) ∧
    w.ownsRow 0 69 7 tv G.length (thsC 0 G) ∧ ∀ k, isB tv k → O k
  row : ∀ (i : Nat) (x : Th × Lay), G[i]? = some x → ThR O w x.1 x.2
  apart : ∀ (i j : Nat) (x y : Th × Lay), i ≠ j → G[i]? = some x → G[j]? = some y → apartL x.2 y.2
  fr0 : 0 ≤ fr
  few : G.length + fr ≤ 1048576
/-- of the blocks of w none has turned but those in O -/
structure Frm (O : Nat → Prop) (w w' : World) : Prop where
  os : w'.os = w.os
  tape : w'.tape = w.tape
  output : w'.output = w.output
  size : w.heap.size ≤ w'.heap.size
  block : ∀ k, k < w.heap.size → ¬ O k → w'.heap[k]? = w.heap[k]?
/-- what is one's own, or new -/
def Up (O : Nat → Prop) (w w' : World) : Nat → Prop := fun k => O k ∨ (w.heap.size ≤ k ∧ k < w'.heap.size)
theorem Frm.refl (O : Nat → Prop) (w : World) : Frm O w w := ⟨rfl, rfl, rfl, Nat.le_refl _, fun _ _ _ => rfl⟩
theorem Frm.of_below {O : Nat → Prop} {w w' : World} (h : Below w.heap.size w w') : Frm O w w' := ⟨h.os, h.tape, h.output, h.size, fun k hk _ => h.block k hk⟩
theorem Frm.below {O : Nat → Prop} {B : Nat} {w w' : World} (h : Frm O w w') (hB : B ≤ w.heap.size) (hO : ∀ k, k < B → ¬ O k) : Below B w w' := ⟨h.os, h.tape, h.output, h.size, fun k hk => h.block k (by omega) (hO k hk)⟩
theorem Frm.trans {O : Nat → Prop} {u v w : World} (h : Frm O u v) (k : Frm (Up O u v) v w) : Frm O u w :=
  ⟨k.os.trans h.os, k.tape.trans h.tape, k.output.trans h.output, Nat.le_trans h.size k.size, fun i hi hb => (k.block i (Nat.lt_of_lt_of_le hi h.size) (fun e => by rcases e with e | e; exact hb e; omega)).trans (h.block i hi hb)⟩
theorem Frm.mono {O O' : Nat → Prop} {u v : World} (h : Frm O u v) (hO : ∀ k, k < u.heap.size → O k → O' k) : Frm O' u v :=
  ⟨h.os, h.tape, h.output, h.size, fun i hi hb => h.block i hi (fun e => hb (hO i hi e))⟩
theorem owns_same {w w' : World} {base n size : Nat} {e : TypeId} {v : Value} {xs : List Value} (h : w.ownsRow base e size v n xs) (hk : ∀ k, isB v k → w'.heap[k]? = w.heap[k]?) : w'.ownsRow base e size v n xs := by
  refine ⟨h.1, ?_⟩
  rcases h.2 with h0 | ⟨g, cap, cur, rfl, hb, hg, hr⟩
  · exact .inl h0
  · exact .inr ⟨g, cap, cur, rfl, hb, (hk g rfl).trans hg, hr⟩
theorem owns_lt {w : World} {base n size : Nat} {e : TypeId} {v : Value} {xs : List Value} (h : w.ownsRow base e size v n xs) {k : Nat} (hk : isB v k) : k < w.heap.size := (h.lt k hk).2
theorem ThR.same {O : Nat → Prop} {w w' : World} {t : Th} {l : Lay} (h : ThR O w t l) (hk : ∀ k, (isB l.b k ∨ isB l.i k ∨ isB l.p k) → w'.heap[k]? = w.heap[k]?) : ThR O w' t l :=
  ⟨owns_same h.rb (fun k hb => hk k (.inl hb)), owns_same h.ri (fun k hb => hk k (.inr (.inl hb))), owns_same h.rp (fun k hb => hk k (.inr (.inr hb))), h.ob, h.oi, h.op, h.nb, h.ni, h.np, h.nm⟩
theorem ThR.mono {O O' : Nat → Prop} {w : World} {t : Th} {l : Lay} (h : ThR O w t l) (hO : ∀ k, k < w.heap.size → O k → O' k) : ThR O' w t l :=
  ⟨h.rb, h.ri, h.rp, fun k hk => hO k (owns_lt h.rb hk) (h.ob k hk), fun k hk => hO k (owns_lt h.ri hk) (h.oi k hk), fun k hk => hO k (owns_lt h.rp hk) (h.op k hk), h.nb, h.ni, h.np, h.nm⟩
theorem ThR.lt {O : Nat → Prop} {w : World} {t : Th} {l : Lay} (h : ThR O w t l) {k : Nat} (hk : isB l.b k ∨ isB l.i k ∨ isB l.p k) : k < w.heap.size := by
  rcases hk with hk | hk | hk
  · exact owns_lt h.rb hk
  · exact owns_lt h.ri hk
  · exact owns_lt h.rp hk
theorem Rep.lt {O : Nat → Prop} {w : World} {s : Nat} {fr : Int} {G : List (Th × Lay)} (h : Rep O w s fr G) : s < w.heap.size := by
  obtain ⟨tv, am, cm, ac, cc, hb, _⟩ := h.blk
  exact (Array.getElem?_eq_some_iff.1 hb).1
/-- where none of its blocks has turned the store is as it was -/
theorem Rep.same {O : Nat → Prop} {w w' : World} {s : Nat} {fr : Int} {G : List (Th × Lay)} (h : Rep O w s fr G) (hz : w.heap.size ≤ w'.heap.size) (hk : ∀ k, k < w.heap.size → O k → w'.heap[k]? = w.heap[k]?) : Rep O w' s fr G := by
  obtain ⟨tv, am, cm, ac, cc, hb, ht, ho⟩ := h.blk
  refine ⟨h.os, fun k ho => Nat.lt_of_lt_of_le (h.olt k ho) hz, ⟨tv, am, cm, ac, cc, (hk s h.lt h.os).trans hb, owns_same ht (fun k hk2 => hk k (owns_lt ht hk2) (ho k hk2)), ho⟩, fun i x hx => ?_, h.apart, h.fr0, h.few⟩
  have hr := h.row i x hx
  exact hr.same (fun k hk2 => hk k (hr.lt hk2) (by rcases hk2 with e | e | e; exact hr.ob k e; exact hr.oi k e; exact hr.op k e))
theorem Rep.mono {O O' : Nat → Prop} {w : World} {s : Nat} {fr : Int} {G : List (Th × Lay)} (h : Rep O w s fr G) (hO : ∀ k, k < w.heap.size → O k → O' k) (hl : ∀ k, O' k → k < w.heap.size) : Rep O' w s fr G := by
  obtain ⟨tv, am, cm, ac, cc, hb, ht, ho⟩ := h.blk
  exact ⟨hO s h.lt h.os, hl, ⟨tv, am, cm, ac, cc, hb, ht, fun k hk => hO k (owns_lt ht hk) (ho k hk)⟩, fun i x hx => (h.row i x hx).mono hO, h.apart, h.fr0, h.few⟩
theorem Rep.below {O : Nat → Prop} {w w' : World} {s : Nat} {fr : Int} {G : List (Th × Lay)} (h : Rep O w s fr G) (hb : Below w.heap.size w w') : Rep O w' s fr G := h.same hb.size (fun k hk _ => hb.block k hk)
/-- a thing's cells -/
theorem Rep.cells {O : Nat → Prop} {w : World} {s : Nat} {fr : Int} {G : List (Th × Lay)} (h : Rep O w s fr G) :
    ∃ (tv : Value) (am : Option Addr) (cm : Nat) (ac : Option Addr) (cc : Nat), (w.cell? ⟨s, 0, none⟩ = some tv ∧ w.cell? ⟨s, 1, none⟩ = some (.int .i64 G.length) ∧ w.cell? ⟨s, 2, none⟩ = some (.int .i64 fr) ∧ w.cell? ⟨s, 3, none⟩ = some (.slice am 0 cm) ∧ w.cell? ⟨s, 4, none⟩ = some (.int .i64 0) ∧ w.cell? ⟨s, 5, none⟩ = some (.slice ac 0 cc)) ∧
      ((tv = .slice none 0 0 ∧ G = []) ∨ ∃ g cap, tv = .slice (some ⟨g, 0, none⟩) G.length cap ∧ g < w.heap.size ∧ G.length ≤ cap ∧ (∀ o, w.frozen? ⟨g, o, none⟩ = false) ∧ ∀ (i f : Nat) (x : Th × Lay), G[i]? = some x → f < 7 → w.cell? ⟨g, i * 7 + f, none⟩ = (thC i x)[f]?) ∧ ∀ o, w.frozen? ⟨s, o, none⟩ = false := by
  obtain ⟨tv, am, cm, ac, cc, hb, ht, ho⟩ := h.blk
  have hc : ∀ f, w.cell? ⟨s, f, none⟩ = (#[tv, .int .i64 G.length, .int .i64 fr, .slice am 0 cm, .int .i64 0, .slice ac 0 cc] : Array Value)[f]? := fun f => by simp [World.cell?, hb]
  refine ⟨tv, am, cm, ac, cc, ⟨hc 0, hc 1, hc 2, hc 3, hc 4, hc 5⟩, ?_, fun o => by simp [World.frozen?, hb]⟩
  rcases ht.2 with ⟨rfl, hn⟩ | ⟨g, cap, cur, rfl, _, hg, hnc, _⟩
  · exact .inl ⟨rfl, List.eq_nil_of_length_eq_zero hn⟩
  · refine .inr ⟨g, cap, rfl, (Array.getElem?_eq_some_iff.1 hg).1, hnc, fun o => ht.frozenAt o, fun i f x hx hf => ?_⟩
    have hi : i < G.length := (List.getElem?_eq_some_iff.1 hx).1
    rw [ht.cellAt (i * 7 + f) (by omega), thsC_at G 0 i f x hx hf, Nat.zero_add]
end St
end Go.Proofs.YtfilbfenpdaahaaGreatDoor
namespace Go.Proofs.YtfilbfenpdaahaaGreatDoor
open Go.RowKit
open St
/-- do n places from f on lie in that length? -/
def liesB (f n L : Int) : Bool := decide (0 ≤ f) && (decide (0 ≤ n) && (decide (f ≤ L) && decide (n ≤ L - f)))
theorem lies_at (f n : Int) (L : Nat) (hL : L ≤ 65535) (w : World) :
    Calls Tryz.prog 49 #[.int .i64 f, .int .i64 n, .int .i64 L] w fun e w' => e = .returned (.bool (liesB f n L)) ∧ w' = w := by
  unfold liesB
  by_cases h1 : 0 ≤ f
  · by_cases h2 : 0 ≤ n
    · by_cases h3 : f ≤ L
      · go_enter Tryz.func49, Tryz.ntmps49
        go_wp2
        go_ret
        exact ⟨by simp [h1, h2, h3], rfl⟩
      · go_enter Tryz.func49, Tryz.ntmps49
        go_wp2
        go_ret
        exact ⟨by simp; omega, rfl⟩
    · go_enter Tryz.func49, Tryz.ntmps49
      go_wp2
      go_ret
      exact ⟨by simp; omega, rfl⟩
  · go_enter Tryz.func49, Tryz.ntmps49
    go_wp2
    go_ret
    exact ⟨by simp; omega, rfl⟩
def lenOf (k : Int) (nb ni : Nat) : Nat := if k = 6 then nb else if k = 7 then ni else 0
theorem length_at {w : World} {g o nb cb ni ci : Nat} {k : Int} {ab ai : Option Addr} (h1 : w.cell? ⟨g, o + 1, none⟩ = some (.int .i64 k)) (h2 : w.cell? ⟨g, o + 2, none⟩ = some (.slice ab nb cb)) (h3 : w.cell? ⟨g, o + 3, none⟩ = some (.slice ai ni ci)) :
    Calls Tryz.prog 33 #[.pointer (some ⟨g, o, none⟩)] w fun e w' => e = .returned (.int .i64 (lenOf k nb ni)) ∧ w' = w := by
  unfold lenOf
  by_cases k6 : k = 6
  · subst k6
    go_enter Tryz.func33, Tryz.ntmps33
    go_wp2
    go_ret
    exact ⟨by simp, rfl⟩
  · by_cases k7 : k = 7
    · subst k7
      go_enter Tryz.func33, Tryz.ntmps33
      go_wp2
      go_ret
      exact ⟨by simp, rfl⟩
    · have e6 : (k == 6) = false := by simp [k6]
      have e7 : (k == 7) = false := by simp [k7]
      go_enter Tryz.func33, Tryz.ntmps33
      go_wp2
      go_ret
      exact ⟨by simp, rfl⟩
/-- the search's test: is the i-th thing's Ref above? -/
theorem upTo1_at {w : World} {b1 b2 s g i n cap : Nat} {r : Int} (hi : i < n) (h1 : w.cell? ⟨b1, 0, none⟩ = some (.pointer (some ⟨s, 0, none⟩))) (h2 : w.cell? ⟨b2, 0, none⟩ = some (.int .i64 r))
    (h3 : w.cell? ⟨s, 0, none⟩ = some (.slice (some ⟨g, 0, none⟩) n cap)) (h4 : w.cell? ⟨g, i * 7, none⟩ = some (.int .i64 (i + 1 : Nat))) :
    Calls Tryz.prog 84 #[.int .i64 i, .pointer (some ⟨b1, 0, none⟩), .pointer (some ⟨b2, 0, none⟩)] w fun e w' => e = .returned (.bool (decide (r < (i + 1 : Nat)))) ∧ ∃ q, w' = w.drewN q := by
  have hiz : (i : Int) < (n : Int) := by omega
  go_enter Tryz.func84, Tryz.ntmps84
  go_wp2
  go_quiet (fail)
  go_wp2
  go_ret
  exact ⟨by simp, _, rfl⟩
/-- the world of a search: the things' row, and the two boxes of its test -/
structure Sea (w : World) (b1 b2 s : Nat) (r : Int) (n : Nat) (v : Value) : Prop where
  c1 : w.cell? ⟨b1, 0, none⟩ = some (.pointer (some ⟨s, 0, none⟩))
  c2 : w.cell? ⟨b2, 0, none⟩ = some (.int .i64 r)
  c3 : w.cell? ⟨s, 0, none⟩ = some v
  row : n = 0 ∨ ∃ g cap, v = .slice (some ⟨g, 0, none⟩) n cap ∧ ∀ i, i < n → w.cell? ⟨g, i * 7, none⟩ = some (.int .i64 (i + 1 : Nat))
theorem Sea.draws {w : World} {b1 b2 s n : Nat} {r : Int} {v : Value} (h : Sea w b1 b2 s r n v) (q : Nat) : Sea (w.drewN q) b1 b2 s r n v := ⟨h.c1, h.c2, h.c3, h.row⟩
/-- how many Refs are at most r: those of the first ones -/
def upN (r : Int) (n : Nat) : Nat := min r.toNat n
set_option maxHeartbeats 4000000 in
theorem search_at {w : World} {b1 b2 s n : Nat} {r : Int} {v : Value} (hn : n ≤ 1048576) (h : Sea w b1 b2 s r n v) :
    Calls Tryz.prog 83 #[.int .i64 n, .func (.func 84) #[] #[.pointer (some ⟨b1, 0, none⟩), .pointer (some ⟨b2, 0, none⟩)]] w fun e w' => e = .returned (.int .i64 (upN r n)) ∧ ∃ q, w' = w.drewN q := by
  unfold upN
  have HS := Lib.hid h
  clear h
  go_enter Tryz.func83, Tryz.ntmps83
  go_wp2_with fail
  go_loopw [5, 6] (fun s5 s6 wr => ∃ lo hi q : Nat, s5 = .int .i64 lo ∧ s6 = .int .i64 hi ∧ lo ≤ hi ∧ hi ≤ n ∧ (lo ≤ r.toNat) ∧ (hi = n ∨ r.toNat ≤ hi) ∧ wr = w.drewN q) (fun s5 s6 _ => (intOf s6).toNat - (intOf s5).toNat)
  case atStart => exact ⟨0, n, 0, rfl, rfl, Nat.zero_le _, Nat.le_refl _, Nat.zero_le _, .inl rfl, rfl⟩
  case round =>
    obtain ⟨lo, hi, q, rfl, rfl, hlh, hin, hlr, hhr, rfl⟩ := hrel
    by_cases hlt : lo < hi
    · have hS := HS.out.draws q
      obtain ⟨c1, c2, c3, hrow⟩ := hS
      rcases hrow with h0 | ⟨g, cap, rfl, hg⟩
      · omega
      · have hc := upTo1_at (i := (lo + hi) / 2) (n := n) (by omega) c1 c2 c3 (hg _ (by omega))
        rw [show (((lo + hi) / 2 : Nat) : Int) = ((lo : Int) + (hi : Int)) / 2 by omega] at hc
        have HC := Lib.hid hc
        clear hc c1 c2 c3 hg
        by_cases hp : r < (((lo + hi) / 2 + 1 : Nat) : Int)
        · have hpd : decide (r < (((lo + hi) / 2 + 1 : Nat) : Int)) = true := decide_eq_true hp
          rw [hpd] at HC
          clear hpd
          go_wp2_with fail
          refine HC.out.mono ?_; rintro e w' ⟨rfl, nq, rfl⟩
          go_wp2_with fail
          go_roundw
          case rel => exact ⟨lo, (lo + hi) / 2, q + nq, rfl, by go_num, by omega, by omega, hlr, .inr (by omega), rfl⟩
          case measure => simp [intOf]; omega
        · have hpd : decide (r < (((lo + hi) / 2 + 1 : Nat) : Int)) = false := decide_eq_false hp
          rw [hpd] at HC
          clear hpd
          go_wp2_with fail
          refine HC.out.mono ?_; rintro e w' ⟨rfl, nq, rfl⟩
          go_wp2_with fail
          go_roundw
          case rel => exact ⟨(lo + hi) / 2 + 1, hi, q + nq, by go_num, rfl, by omega, by omega, by omega, hhr, rfl⟩
          case measure => simp [intOf]; omega
    · go_wp2_with fail
      go_ret
      exact ⟨by go_num, _, rfl⟩
end Go.Proofs.YtfilbfenpdaahaaGreatDoor
namespace Go.Proofs.YtfilbfenpdaahaaGreatDoor
open Go.RowKit
open St
def blkOf : Value → Nat
  | .slice (some a) _ _ => a.block
  | _ => 0
/-- what is read of a store's things -/
structure Vw (w : World) (s : Nat) (tv : Value) (G : List (Th × Lay)) : Prop where
  c0 : w.cell? ⟨s, 0, none⟩ = some tv
  few : G.length ≤ 1048576
  row : (tv = .slice none 0 0 ∧ G = []) ∨ ∃ g cap, tv = .slice (some ⟨g, 0, none⟩) G.length cap ∧ g < w.heap.size ∧ ∀ (i f : Nat) (x : Th × Lay), G[i]? = some x → f < 7 → w.cell? ⟨g, i * 7 + f, none⟩ = (thC i x)[f]?
theorem Vw.lt {w : World} {s : Nat} {tv : Value} {G : List (Th × Lay)} (h : Vw w s tv G) : s < w.heap.size := World.block_lt_of_cell? w _ h.c0
theorem Vw.below {w w' : World} {s : Nat} {tv : Value} {G : List (Th × Lay)} (h : Vw w s tv G) (hb : Below w.heap.size w w') : Vw w' s tv G := by
  refine ⟨(hb.cell (by exact h.lt)).trans h.c0, h.few, ?_⟩
  rcases h.row with h0 | ⟨g, cap, rfl, hg, hc⟩
  · exact .inl h0
  · exact .inr ⟨g, cap, rfl, Nat.lt_of_lt_of_le hg hb.size, fun i f x hx hf => (hb.cell (by exact hg)).trans (hc i f x hx hf)⟩
theorem below2 (w : World) (o p : Obj) : Below w.heap.size w ((w.alloc o).alloc p) := ((Below.refl _ _).alloc (by simp) _).alloc (by simp) _
theorem below1 (w : World) (o : Obj) : Below w.heap.size w (w.alloc o) := (Below.refl _ _).alloc (by simp) _
theorem below_draw {B : Nat} {w w' : World} (h : Below B w w') (q : Nat) : Below B w (w'.drewN q) := h.trans ⟨rfl, rfl, rfl, Nat.le_refl _, fun _ _ => rfl⟩
theorem bthen {w v u : World} (h : Below w.heap.size w v) (k : Below v.heap.size v u) : Below w.heap.size w u := h.trans (k.mono h.size)
theorem Vw.sea {w : World} {s : Nat} {tv : Value} {G : List (Th × Lay)} (h : Vw w s tv G) (r : Int) : Sea ((w.alloc (.cells #[.pointer (some ⟨s, 0, none⟩)] 22)).alloc (.cells #[.int .i64 r] 3)) w.heap.size (w.heap.size + 1) s r G.length tv := by
  have hb := h.below (below2 w (.cells #[.pointer (some ⟨s, 0, none⟩)] 22) (.cells #[.int .i64 r] 3))
  refine ⟨by simp [go_sem], by simp [go_sem], hb.c0, ?_⟩
  rcases hb.row with ⟨_, rfl⟩ | ⟨g, cap, e, _, hc⟩
  · exact .inl rfl
  · exact .inr ⟨g, cap, e, fun i hi => (hc i 0 _ (List.getElem?_eq_getElem hi) (by omega)).trans rfl⟩
theorem upTo_at {w : World} {s : Nat} {tv : Value} {G : List (Th × Lay)} (h : Vw w s tv G) (r : Int) :
    Calls Tryz.prog 66 #[.pointer (some ⟨s, 0, none⟩), .int .i64 r] w fun e w' => e = .returned (.int .i64 (upN r G.length)) ∧ Below w.heap.size w w' := by
  have HS := Lib.hid (search_at h.few (h.sea r))
  have hb := h.below (below2 w (.cells #[.pointer (some ⟨s, 0, none⟩)] 22) (.cells #[.int .i64 r] 3))
  have hc := hb.c0
  have hlt := h.lt
  have hmf : ∀ (fn : Fn) (first cap : Array Value) (w : World), (Instr.makeFunc fn first cap).run Tryz.prog w = .ok (.func fn first cap) w := fun _ _ _ _ => rfl
  have hsl : ∃ a c, tv = .slice a G.length c := by
    rcases h.row with ⟨rfl, rfl⟩ | ⟨g, cap, rfl, _⟩
    · exact ⟨none, 0, rfl⟩
    · exact ⟨_, _, rfl⟩
  obtain ⟨ta, tc, rfl⟩ := hsl
  have hfew := h.few
  have hc0 := h.c0
  clear h hb
  go_enter Tryz.func66, Tryz.ntmps66
  go_wp2_with fail
  refine HS.out.mono ?_; rintro e w' ⟨rfl, q, rfl⟩
  go_wp2_with fail
  go_ret
  exact ⟨rfl, below_draw (below2 _ _ _) q⟩
end Go.Proofs.YtfilbfenpdaahaaGreatDoor
namespace Go.Proofs.YtfilbfenpdaahaaGreatDoor
open Go.RowKit
open St
theorem byRef_yes {w : World} {s i : Nat} {tv : Value} {G : List (Th × Lay)} (h : Vw w s tv G) (hi : i < G.length) :
    Calls Tryz.prog 48 #[.pointer (some ⟨s, 0, none⟩), .int .i64 (i + 1 : Nat)] w fun e w' => e = .returned (.pointer (some ⟨blkOf tv, i * 7, none⟩)) ∧ Below w.heap.size w w' := by
  have hU := upTo_at h (i + 1 : Nat)
  have eU : upN ((i + 1 : Nat) : Int) G.length = i + 1 := by unfold upN; simp; omega
  rw [eU] at hU
  have HU := Lib.hid hU
  have HV := Lib.hid h
  clear hU eU h
  go_enter Tryz.func48, Tryz.ntmps48
  go_wp2_with fail
  refine HU.out.mono ?_; rintro e w1 ⟨rfl, hb⟩
  have hv := HV.out.below hb
  have HB := Lib.hid hb
  clear hb
  rcases hv.row with ⟨_, rfl⟩ | ⟨g, cap, rfl, hg, hc⟩
  · simp at hi
  · have h0 := hv.c0
    have hfew := hv.few
    have h1 : w1.cell? ⟨g, i * 7, none⟩ = some (.int .i64 (i + 1 : Nat)) := (hc i 0 _ (List.getElem?_eq_getElem hi) (by omega)).trans rfl
    clear hc hv
    go_wp2_with fail
    go_ret
    exact ⟨rfl, HB.out⟩
theorem byRef_no {w : World} {s : Nat} {r : Int} {tv : Value} {G : List (Th × Lay)} (h : Vw w s tv G) (hr : ¬ (1 ≤ r ∧ r ≤ G.length)) :
    Calls Tryz.prog 48 #[.pointer (some ⟨s, 0, none⟩), .int .i64 r] w fun e w' => e = .returned (.pointer none) ∧ Below w.heap.size w w' := by
  have hU := upTo_at h r
  have HV := Lib.hid h
  by_cases h0 : upN r G.length = 0
  · rw [h0] at hU
    have HU := Lib.hid hU
    clear hU h0 h hr
    go_enter Tryz.func48, Tryz.ntmps48
    go_wp2_with fail
    refine HU.out.mono ?_; rintro e w1 ⟨rfl, hb⟩
    have HB := Lib.hid hb
    clear hb
    go_wp2_with fail
    go_ret
    exact ⟨rfl, HB.out⟩
  · have eU : upN r G.length = G.length ∧ G.length < r := by unfold upN at h0 ⊢; omega
    obtain ⟨eU, hgt⟩ := eU
    rw [eU] at hU
    obtain ⟨m, hm⟩ : ∃ m, G.length = m + 1 := ⟨G.length - 1, by rw [eU] at h0; omega⟩
    rw [hm] at hU hgt
    have HU := Lib.hid hU
    have hne : (((m : Int) + 1) != r) = true := by simp; omega
    clear hU h0 h hr eU
    go_enter Tryz.func48, Tryz.ntmps48
    go_wp2_with fail
    refine HU.out.mono ?_; rintro e w1 ⟨rfl, hb⟩
    have hv := HV.out.below hb
    have HB := Lib.hid hb
    clear hb
    rcases hv.row with ⟨_, rfl⟩ | ⟨g, cap, rfl, hg, hc⟩
    · simp at hm
    · have h0 := hv.c0
      have hfew := hv.few
      have h1 : w1.cell? ⟨g, m * 7, none⟩ = some (.int .i64 (m + 1 : Nat)) := (hc m 0 _ (List.getElem?_eq_getElem (by omega)) (by omega)).trans rfl
      rw [hm] at h0 hfew
      clear hc hv
      go_wp2_with fail
      go_ret
      exact ⟨rfl, HB.out⟩
/-- which thing o tells of, if it is valid and of that Kind -/
def tld (G : List (Th × Lay)) (o : Ob) (k : Int) : Option Nat :=
  if o.kind = k ∧ 1 ≤ o.ref then
    match G[o.ref.toNat - 1]? with
    | some x => if x.1.kind = k ∧ liesB o.frm o.len x.1.length = true then some (o.ref.toNat - 1) else none
    | none => none
  else none
def thP (tv : Value) (x : Option Nat) : Value := .pointer (x.map fun i => ⟨blkOf tv, i * 7, none⟩)
theorem tld_some {G : List (Th × Lay)} {o : Ob} {k : Int} {i : Nat} (h : tld G o k = some i) : o.kind = k ∧ o.ref = (i + 1 : Nat) ∧ ∃ x, G[i]? = some x ∧ x.1.kind = k ∧ liesB o.frm o.len x.1.length = true := by
  unfold tld at h
  split at h
  · rename_i hk
    split at h
    · rename_i x hx
      split at h
      · rename_i hl
        cases h
        exact ⟨hk.1, by omega, x, hx, hl.1, hl.2⟩
      · cases h
    · cases h
  · cases h
theorem thC_len {w : World} {g i : Nat} {x : Th × Lay} {G : List (Th × Lay)} (hx : G[i]? = some x) (hc : ∀ (i f : Nat) (x : Th × Lay), G[i]? = some x → f < 7 → w.cell? ⟨g, i * 7 + f, none⟩ = (thC i x)[f]?) :
    w.cell? ⟨g, i * 7, none⟩ = some (.int .i64 (i + 1 : Nat)) ∧ w.cell? ⟨g, i * 7 + 1, none⟩ = some (.int .i64 x.1.kind) ∧ w.cell? ⟨g, i * 7 + 2, none⟩ = some x.2.b ∧ w.cell? ⟨g, i * 7 + 3, none⟩ = some x.2.i ∧ w.cell? ⟨g, i * 7 + 4, none⟩ = some x.2.p ∧ w.cell? ⟨g, i * 7 + 5, none⟩ = some (.int .i64 x.1.most) ∧ w.cell? ⟨g, i * 7 + 6, none⟩ = some (.int .i64 x.1.acc) :=
  ⟨hc i 0 x hx (by omega), hc i 1 x hx (by omega), hc i 2 x hx (by omega), hc i 3 x hx (by omega), hc i 4 x hx (by omega), hc i 5 x hx (by omega), hc i 6 x hx (by omega)⟩
theorem own_slice {w : World} {base n size : Nat} {e : TypeId} {v : Value} {xs : List Value} (h : w.ownsRow base e size v n xs) : ∃ a c, v = .slice a n c := by
  rcases h.2 with ⟨rfl, rfl⟩ | ⟨g, cap, cur, rfl, _⟩
  · exact ⟨none, 0, rfl⟩
  · exact ⟨_, _, rfl⟩
/-- that each thing's rows are slices of so many -/
def Slc (G : List (Th × Lay)) : Prop := ∀ (i : Nat) (x : Th × Lay), G[i]? = some x → (∃ a c, x.2.b = .slice a x.1.bytes.length c) ∧ (∃ a c, x.2.i = .slice a x.1.items.length c) ∧ (∃ a c, x.2.p = .slice a x.1.pairs.length c) ∧ x.1.bytes.length ≤ 65535 ∧ x.1.items.length ≤ 65535
theorem Rep.slc {O : Nat → Prop} {w : World} {s : Nat} {fr : Int} {G : List (Th × Lay)} (h : Rep O w s fr G) : Slc G := fun i x hx =>
  ⟨own_slice (h.row i x hx).rb, own_slice (h.row i x hx).ri, own_slice (h.row i x hx).rp, (h.row i x hx).nb, (h.row i x hx).ni⟩
theorem lenOf_length (t : Th) : lenOf t.kind t.bytes.length t.items.length = t.length := rfl
theorem length_le {t : Th} (h1 : t.bytes.length ≤ 65535) (h2 : t.items.length ≤ 65535) : t.length ≤ 65535 := by unfold Th.length; split <;> (try split) <;> omega
/-- an object in a box -/
def obC (o : Ob) : Obj := .cells #[.int .i64 o.kind, .bool o.exec, .int .i64 o.acc, .int .i64 o.n, .string o.name, .int .i64 o.ref, .int .i64 o.frm, .int .i64 o.len] 27
theorem told_no {w : World} {s : Nat} {tv : Value} {G : List (Th × Lay)} (h : Vw w s tv G) (o : Ob) (k : Int) (hr : o.kind = k → ¬ (1 ≤ o.ref ∧ o.ref ≤ G.length)) :
    Calls Tryz.prog 21 #[.pointer (some ⟨s, 0, none⟩), o.val, .int .i64 k] w fun e w' => e = .returned (.pointer none) ∧ Below w.heap.size w w' := by
  have hV := h.below (below1 w (obC o))
  clear h
  unfold Ob.val
  by_cases hk : o.kind = k
  · have HB1 := Lib.hid (byRef_no hV (hr hk))
    obtain ⟨kd, ex, ac, n, nm, rf, fm, ln⟩ := o
    unfold obC at HB1
    simp only at hk HB1 ⊢
    subst hk
    clear hV hr
    go_enter Tryz.func21, Tryz.ntmps21
    go_wp2_with fail
    refine HB1.out.mono ?_; rintro e w1 ⟨rfl, hb⟩
    have HB := Lib.hid (bthen (below1 w _) hb)
    clear hb
    go_wp2_with fail
    go_quiet (fail)
    go_wp2_with fail
    go_ret
    exact ⟨rfl, below_draw HB.out _⟩
  · have hkn : (o.kind != k) = true := by simp [hk]
    clear hk hV hr
    go_enter Tryz.func21, Tryz.ntmps21
    go_wp2_with fail
    go_ret
    exact ⟨rfl, below1 _ _⟩
set_option maxHeartbeats 4000000 in
theorem told_yes {w : World} {s i : Nat} {tv : Value} {G : List (Th × Lay)} {x : Th × Lay} (h : Vw w s tv G) (hS : Slc G) (hx : G[i]? = some x) (k : Int) (ex : Bool) (ac n : Int) (nm : ByteArray) (fm ln : Int) (c : Bool) (hc : (decide (x.1.kind = k) && liesB fm ln x.1.length) = c) :
    Calls Tryz.prog 21 #[.pointer (some ⟨s, 0, none⟩), .agg #[.int .i64 k, .bool ex, .int .i64 ac, .int .i64 n, .string nm, .int .i64 ((i : Int) + 1), .int .i64 fm, .int .i64 ln], .int .i64 k] w
      fun e w' => e = .returned (thP tv (if c = true then some i else none)) ∧ Below w.heap.size w w' := by
  have hV := h.below (below1 w (obC ⟨k, ex, ac, n, nm, (i : Int) + 1, fm, ln⟩))
  have HV := Lib.hid hV
  have hiG : i < G.length := (List.getElem?_eq_some_iff.1 hx).1
  have hB1 := byRef_yes hV hiG
  rw [show ((i + 1 : Nat) : Int) = (i : Int) + 1 by omega] at hB1
  have HB1 := Lib.hid hB1
  unfold obC at HB1 HV
  obtain ⟨⟨ab, cb, eb⟩, ⟨ai, ci, ei⟩, _, nb, ni⟩ := hS i x hx
  have hlen := length_le nb ni
  have HHX := Lib.hid hx
  have HC := Lib.hid hc
  clear h hV hB1 hiG hx hc hS nb ni
  go_enter Tryz.func21, Tryz.ntmps21
  go_wp2_with fail
  refine HB1.out.mono ?_; rintro e w1 ⟨rfl, hb⟩
  have hv := HV.out.below hb
  have hbox : ∀ f, w1.cell? ⟨w.heap.size, f, none⟩ = (#[.int .i64 k, .bool ex, .int .i64 ac, .int .i64 n, .string nm, .int .i64 ((i : Int) + 1), .int .i64 fm, .int .i64 ln] : Array Value)[f]? := fun f => by
    rw [hb.cell (by simp)]; simp [World.cell?_alloc_new]
  have hb6 : w1.cell? ⟨w.heap.size, 6, none⟩ = some (.int .i64 fm) := hbox 6
  have hb7 : w1.cell? ⟨w.heap.size, 7, none⟩ = some (.int .i64 ln) := hbox 7
  have HB := Lib.hid (bthen (below1 w _) hb)
  clear hb hbox
  rcases hv.row with ⟨_, rfl⟩ | ⟨g, cap, rfl, hg, hc⟩
  · have := HHX.out; simp at this
  · obtain ⟨t0, t1, t2, t3, _⟩ := thC_len HHX.out hc
    rw [eb] at t2
    rw [ei] at t3
    have HL := Lib.hid (fun q => length_at (w := w1.drewN q) (g := g) (o := i * 7) t1 t2 t3)
    have HLi := Lib.hid (fun q => lies_at fm ln x.1.length hlen (w1.drewN q))
    simp only [lenOf_length] at HL
    simp only [blkOf]
    clear hc hv t0 t2 t3 eb ei
    by_cases hxk : x.1.kind = k
    · rw [hxk] at t1
      cases hl : liesB fm ln x.1.length with
      | true =>
        rw [hl] at HLi HC
        obtain rfl : c = true := by rw [← HC.out]; simp [hxk]
        clear hl hxk HC
        go_wp2_with fail
        go_quiet (first | (go_at_call 33; exact Calls.quiet_of_same (HL.out _)) | (go_at_call 49; exact Calls.quiet_of_same (HLi.out _)))
        go_wp2_with fail
        go_ret
        exact ⟨rfl, below_draw HB.out _⟩
      | false =>
        rw [hl] at HLi HC
        obtain rfl : c = false := by rw [← HC.out]; simp
        clear hl hxk HC
        go_wp2_with fail
        go_quiet (first | (go_at_call 33; exact Calls.quiet_of_same (HL.out _)) | (go_at_call 49; exact Calls.quiet_of_same (HLi.out _)))
        go_wp2_with fail
        go_ret
        exact ⟨rfl, below_draw HB.out _⟩
    · have hxn : (x.1.kind != k) = true := by simp [hxk]
      obtain rfl : c = false := by rw [← HC.out]; simp [hxk]
      clear hxk HC
      go_wp2_with fail
      go_quiet (fail)
      go_wp2_with fail
      go_ret
      exact ⟨rfl, below_draw HB.out _⟩
theorem told_at {w : World} {s : Nat} {tv : Value} {G : List (Th × Lay)} (h : Vw w s tv G) (hS : Slc G) (o : Ob) (k : Int) :
    Calls Tryz.prog 21 #[.pointer (some ⟨s, 0, none⟩), o.val, .int .i64 k] w fun e w' => e = .returned (thP tv (tld G o k)) ∧ Below w.heap.size w w' := by
  by_cases hr : o.kind = k → ¬ (1 ≤ o.ref ∧ o.ref ≤ G.length)
  · have ht : tld G o k = none := by
      unfold tld
      split
      · rename_i hk
        rw [List.getElem?_eq_none (by have := hr hk.1; omega)]
      · rfl
    rw [ht]
    exact told_no h o k hr
  · obtain ⟨hk, hr⟩ := Classical.not_imp.1 hr
    have hr2 := Classical.not_not.1 hr
    obtain ⟨i, hi⟩ : ∃ i : Nat, o.ref = (i : Int) + 1 := ⟨o.ref.toNat - 1, by omega⟩
    have hiG : i < G.length := by omega
    have hx := List.getElem?_eq_getElem hiG
    have ht : tld G o k = if (decide (G[i].1.kind = k) && liesB o.frm o.len G[i].1.length) = true then some i else none := by
      unfold tld
      rw [if_pos ⟨hk, hr2.1⟩, show o.ref.toNat - 1 = i by omega, hx]
      simp
    rw [ht]
    have := told_yes h hS hx k o.exec o.acc o.n o.name o.frm o.len _ rfl
    unfold Ob.val
    rw [hk, hi]
    exact this
end Go.Proofs.YtfilbfenpdaahaaGreatDoor
