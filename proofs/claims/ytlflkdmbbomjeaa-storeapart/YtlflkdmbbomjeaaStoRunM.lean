/-
  What stands between two steps of the law's calls: the store, what was made, the boxes.
-/
import Derived.Test.YtlflkdmbbomjeaaStoUp
import Derived.Test.YtlflkdmbbomjeaaStoApp
namespace Go.Proofs.Ytlflkdmbbomjeaa
open Go.RowKit
open St
theorem val_info : (Try.prog.info? 45).map (fun i => (i.zero, i.size, i.bytes)) = some (some (.agg #[.int .i64 0, .bool false, .int .i64 0, .int .i64 0, .string ⟨#[]⟩, .pointer none, .pointer none, .pointer none, .int .i64 0, .int .i64 0]), 10, 88) := by kernel_rfl
def zvalA (n : Nat) : Array Value := madeCells #[.int .i64 0, .bool false, .int .i64 0, .int .i64 0, .string ⟨#[]⟩, .pointer none, .pointer none, .pointer none, .int .i64 0, .int .i64 0] (n * 10)
theorem zvalA_list (n : Nat) : (zvalA n).toList = zvals n := by
  unfold zvalA zvals
  have e := made_list zval 10 rfl (by decide) n
  simp only [zval] at e ⊢
  rw [e]
  clear e
  induction n with
  | zero => rfl
  | succ n ih => rw [List.replicate_succ, List.flatten_cons, ih, List.replicate_succ, List.flatMap_cons]
theorem zvals_len (n : Nat) : (zvals n).length = n * 10 := by
  unfold zvals
  induction n with
  | zero => rfl
  | succ n ih => rw [List.replicate_succ, List.flatMap_cons, List.length_append, ih]; simp [zval]; omega
theorem zvalA_size (n : Nat) : (zvalA n).size = n * 10 := by rw [← Array.length_toList, zvalA_list, zvals_len]
theorem make_vals (n : Nat) (hn : n ≤ 65535) (w : World) : (Instr.makeSlice 35 (.int .i64 n) (.int .i64 n)).run Try.prog w = .ok (.slice (some ⟨w.heap.size, 0, none⟩) n n) (w.alloc (.cells (zvalA n) 45)) := by
  obtain ⟨i0, hi, hz0, hz1, hz2⟩ := info_parts val_info
  have h := run_make (P := Try.prog) w 35 45 i0 _ Try.underlying35 hi hz0 .i64 .i64 n n (by omega) (Int.le_refl _) (by rw [hz2]; omega) (by omega)
  rw [hz1] at h
  simpa [zvalA, Value.cells] using h
theorem add_two (a : Addr) (m f : Nat) (hf : 0 < f) : a.add (m + f) = ⟨(a.add m).block, (a.add m).off + f, none⟩ := by
  have h1 : m + f ≠ 0 := by omega
  unfold Addr.add
  rw [if_neg h1]
  by_cases hm : m = 0
  · subst hm; simp
  · rw [if_neg hm]; simp; omega
/-- a call that the law makes -/
structure Ac where
  d : Int
  a : Int
  c : Int
  k : Int
  n : Int
  m : Int
  b : List UInt8
  ba : Option Addr
  bc : Nat
def Ac.cells (x : Ac) : List Value := [.int .i64 x.d, .int .i64 x.a, .int .i64 x.c, .int .i64 x.k, .int .i64 x.n, .int .i64 x.m, .slice x.ba x.b.length x.bc]
def acC (x : Ac) : Obj := .cells #[.int .i64 x.d, .int .i64 x.a, .int .i64 x.c, .int .i64 x.k, .int .i64 x.n, .int .i64 x.m, .slice x.ba x.b.length x.bc] 38
/-- calls in a row, as they are handed in -/
structure ActsR (w : World) (v : Value) (L : List Ac) : Prop where
  row : (v = .slice none 0 0 ∧ L = []) ∨ ∃ ad cap, v = .slice (some ad) L.length cap ∧ ∀ (i : Nat) (x : Ac), L[i]? = some x → ∀ f, f < 7 → w.cell? (ad.add (i * 7 + f)) = x.cells[f]?
  src : ∀ x ∈ L, Src w x.ba x.b
  a0 : ∀ x ∈ L, -9223372036854775808 ≤ x.a ∧ x.a ≤ 9223372036854775807
  c0 : ∀ x ∈ L, -9223372036854775808 ≤ x.c ∧ x.c ≤ 9223372036854775807
  k0 : ∀ x ∈ L, -9223372036854775808 ≤ x.k ∧ x.k ≤ 9223372036854775807
  few : L.length ≤ 9223372036854775807
  nil : ∀ x ∈ L, x.ba = none → x.bc = 0
/-- what is kept: the blocks in Q are as they were -/
structure Keep (Q : Nat → Prop) (w w' : World) : Prop where
  os : w'.os = w.os
  tape : w'.tape = w.tape
  output : w'.output = w.output
  size : w.heap.size ≤ w'.heap.size
  block : ∀ k, Q k → w'.heap[k]? = w.heap[k]?
theorem Keep.refl (Q : Nat → Prop) (w : World) : Keep Q w w := ⟨rfl, rfl, rfl, Nat.le_refl _, fun _ _ => rfl⟩
theorem Keep.trans {Q : Nat → Prop} {u v w : World} (h : Keep Q u v) (k : Keep Q v w) : Keep Q u w := ⟨k.os.trans h.os, k.tape.trans h.tape, k.output.trans h.output, Nat.le_trans h.size k.size, fun i hi => (k.block i hi).trans (h.block i hi)⟩
theorem keep {Q : Nat → Prop} {B : Nat} {v u : World} (h : Below B v u) (hq : ∀ k, Q k → k < B) : Keep Q v u := ⟨h.os, h.tape, h.output, h.size, fun k hk => h.block k (hq k hk)⟩
theorem Keep.below {B : Nat} {v u : World} (h : Keep (fun k => k < B) v u) : Below B v u := ⟨h.os, h.tape, h.output, h.size, fun k hk => h.block k hk⟩
/-- the store, with nothing of Q its own; what was made, in a row apart from it -/
structure RunO (B : Nat → Prop) (O : Nat → Prop) (w : World) (s : Nat) (l : List Ob) (mv : Value) : Prop where
  rep : ∃ fr G, Rep O w s fr G ∧ Gd G
  lo : ∀ k, O k → ¬ B k
  row : w.ownsRow 0 40 8 mv l.length (l.flatMap Ob.cells)
  rlo : ∀ k, isB mv k → ¬ B k
  far : ∀ k, isB mv k → ¬ O k
  good : ∀ o ∈ l, Good o
  base : ∀ k, B k → k < w.heap.size
theorem RunO.below {B : Nat → Prop} {O : Nat → Prop} {w w' : World} {s : Nat} {l : List Ob} {mv : Value} (h : RunO B O w s l mv) (hb : Below w.heap.size w w') : RunO B O w' s l mv := by
  obtain ⟨fr, G, hR, hG⟩ := h.rep
  exact ⟨⟨fr, G, hR.below hb, hG⟩, h.lo, owns_same h.row (fun k hk => hb.block k (owns_lt h.row hk)), h.rlo, h.far, h.good, fun k hk => Nat.lt_of_lt_of_le (h.base k hk) hb.size⟩
theorem RunO.olt {B : Nat → Prop} {O : Nat → Prop} {w : World} {s : Nat} {l : List Ob} {mv : Value} (h : RunO B O w s l mv) : ∀ k, O k → k < w.heap.size := by
  obtain ⟨fr, G, hR, hG⟩ := h.rep
  exact hR.olt
/-- behind a call of the store -/
theorem RunO.upd {B : Nat → Prop} {O : Nat → Prop} {w w' : World} {s : Nat} {l : List Ob} {mv : Value} (h : RunO B O w s l mv) (hu : Upd O w s w') : ∃ O', RunO B O' w' s l mv ∧ Keep B w w' ∧ (∀ k, O' k → O k ∨ w.heap.size ≤ k) ∧ Frm O w w' := by
  obtain ⟨hF, O', fr', G', hR, hG, hO⟩ := hu
  have hb : Keep B w w' := ⟨hF.os, hF.tape, hF.output, hF.size, fun k hk => hF.block k (h.base k hk) (fun e => h.lo k e hk)⟩
  refine ⟨O', ⟨⟨fr', G', hR, hG⟩, fun k e => ?_, owns_same h.row (fun k hk => hF.block k (owns_lt h.row hk) (h.far k hk)), h.rlo, fun k hk e => ?_, h.good, fun k hk => Nat.lt_of_lt_of_le (h.base k hk) hF.size⟩, hb, hO, hF⟩
  · rcases hO k e with e | e
    · exact h.lo k e
    · intro hq; have := h.base k hq; omega
  · rcases hO k e with e | e
    · exact h.far k hk e
    · have := owns_lt h.row hk; omega
/-- a box that is not the store's, nor of what was made -/
structure Box (O : Nat → Prop) (mv : Value) (w : World) (b : Nat) (c : Obj) : Prop where
  blk : w.heap[b]? = some c
  no : ¬ O b
  nm : ¬ isB mv b
theorem Box.below {O : Nat → Prop} {mv : Value} {w w' : World} {b : Nat} {c : Obj} (h : Box O mv w b c) (hb : Below w.heap.size w w') : Box O mv w' b c := ⟨(hb.block b (Array.getElem?_eq_some_iff.1 h.blk).1).trans h.blk, h.no, h.nm⟩
theorem Box.upd {O O' : Nat → Prop} {mv : Value} {w w' : World} {b : Nat} {c : Obj} (h : Box O mv w b c) (hF : Frm O w w') (hO : ∀ k, O' k → O k ∨ w.heap.size ≤ k) : Box O' mv w' b c := by
  have hlt := (Array.getElem?_eq_some_iff.1 h.blk).1
  exact ⟨(hF.block b hlt h.no).trans h.blk, fun e => by rcases hO b e with e | e; exact h.no e; omega, h.nm⟩
theorem Box.fresh {B : Nat → Prop} {O : Nat → Prop} {w w2 : World} {s : Nat} {l : List Ob} {mv : Value} {b : Nat} {c : Obj} (h : RunO B O w s l mv) (hb : w.heap.size ≤ b) (hc : w2.heap[b]? = some c) : Box O mv w2 b c :=
  ⟨hc, fun e => by have := h.olt b e; omega, fun e => by have := owns_lt h.row e; omega⟩
/-- ahead of the switch: the call's box, three objects, and one to come -/
structure PreS (B : Nat → Prop) (w : World) (s : Nat) (l : List Ob) (mv : Value) (ac : Ac) (b0 b1 b2 b3 b4 : Nat) (wx : World) : Prop where
  out : ∃ O o x k, RunO B O wx s l mv ∧ Box O mv wx b0 (acC ac) ∧ Box O mv wx b1 (obC o) ∧ Box O mv wx b2 (obC x) ∧ Box O mv wx b3 (obC k) ∧ Box O mv wx b4 (.cells zeroOb 40) ∧ Good o ∧ Good x ∧ Good k
  bel : Keep B w wx
/-- behind it -/
structure PosS (B : Nat → Prop) (w : World) (s : Nat) (l : List Ob) (mv : Value) (b4 : Nat) (wx : World) : Prop where
  out : ∃ O p, RunO B O wx s l mv ∧ Box O mv wx b4 (obC p) ∧ Good p
  bel : Keep B w wx
/-- an object has come to a box of its own -/
theorem pos_put {B : Nat → Prop} {O : Nat → Prop} {w wx wy : World} {s : Nat} {l : List Ob} {mv : Value} {b : Nat} {c : Obj} {p : Ob} (h : RunO B O wx s l mv) (hx : Box O mv wx b c) (hB : ¬ B b) (hb : Keep B w wx) (hp : Good p)
    (h8 : Put8 wx b 40 (.int .i64 p.kind) (.bool p.exec) (.int .i64 p.acc) (.int .i64 p.n) (.string p.name) (.int .i64 p.ref) (.int .i64 p.frm) (.int .i64 p.len) wy) : PosS B w s l mv b wy := by
  obtain ⟨fr, G, hR, hG⟩ := h.rep
  refine ⟨⟨O, p, ⟨⟨fr, G, hR.same (by rw [h8.size]; exact Nat.le_refl _) (fun k _ hk => h8.far k (fun e => hx.no (e ▸ hk))), hG⟩, h.lo, owns_same h.row (fun k hk => h8.far k (fun e => hx.nm (e ▸ hk))), h.rlo, h.far, h.good, fun k hk => by rw [h8.size]; exact h.base k hk⟩, ⟨h8.blk, hx.no, hx.nm⟩, hp⟩, ?_⟩
  exact hb.trans ⟨h8.os, h8.tape, h8.output, by rw [h8.size]; exact Nat.le_refl _, fun k hk => h8.far k (fun e => hB (e ▸ hk))⟩
theorem Rep.frm_same {O : Nat → Prop} {w w' : World} {s : Nat} {fr : Int} {G : List (Th × Lay)} (h : Rep O w s fr G) (hz : w.heap.size ≤ w'.heap.size) (hk : ∀ k, k < w.heap.size → O k → w'.heap[k]? = w.heap[k]?) : Rep O w' s fr G := h.same hz hk
/-- what was made has one more -/
theorem run_app {B : Nat → Prop} {O : Nat → Prop} {w wx w5 : World} {s : Nat} {l : List Ob} {mv : Value} {p : Ob} {gg cap : Nat} {ob : Obj} (h : RunO B O wx s l mv) (hb : Keep B w wx) (hp : Good p)
    (hown : w5.ownsRow 0 40 8 (.slice (some ⟨gg, 0, none⟩) (l.length + 1) cap) (l.length + 1) (l.flatMap Ob.cells ++ p.cells)) (hg : (wx.alloc ob).grownBy w5 mv.ownBlock) (hat : mv.ownBlock = some gg ∨ gg = wx.heap.size + 1) :
    RunO B O w5 s (l ++ [p]) (.slice (some ⟨gg, 0, none⟩) (l ++ [p]).length cap) ∧ Keep B w w5 := by
  obtain ⟨fr, G, hR, hG⟩ := h.rep
  have hz := hg.size
  simp at hz
  have hbase := h.base
  have hkeep : ∀ k, k < wx.heap.size → ¬ isB mv k → w5.heap[k]? = wx.heap[k]? := fun k hk hne => by
    rw [hg.block k (by simp; omega) (fun e => hne e.symm), heap_alloc_old _ _ hk]
  refine ⟨⟨⟨fr, G, hR.same (by omega) (fun k hk hO => hkeep k hk (fun e => h.far k e hO)), hG⟩, h.lo, ?_, fun k hk => ?_, fun k hk hO => ?_, fun o ho => ?_, fun k hk => by have := hbase k hk; omega⟩, ?_⟩
  · simpa using hown
  · have e : gg = k := by simpa [isB, Value.ownBlock] using hk
    subst e
    rcases hat with e | e
    · exact h.rlo _ e
    · intro hq; have := hbase _ hq; omega
  · have e : gg = k := by simpa [isB, Value.ownBlock] using hk
    subst e
    rcases hat with e | e
    · exact h.far _ e hO
    · have := h.olt _ hO; omega
  · rcases List.mem_append.1 ho with e | e
    · exact h.good o e
    · have e2 : o = p := by simpa using e
      rw [e2]; exact hp
  · exact hb.trans ⟨hg.os, hg.tape, hg.output, by omega, fun k hk => hkeep k (hbase k hk) (fun e => h.rlo k e hk)⟩
end Go.Proofs.Ytlflkdmbbomjeaa
