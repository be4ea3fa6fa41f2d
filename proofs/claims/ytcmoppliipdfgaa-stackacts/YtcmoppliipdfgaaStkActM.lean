/-
  What stands between two calls of the law StackActs.
-/
import Derived.Test.YtcmoppliipdfgaaStkLaws
import Derived.Test.YtcmoppliipdfgaaStkNil
namespace Go.Proofs.Ytcmoppliipdfgaa
open Go.RowKit
open St Stk
namespace Stk
/-- a call that the law makes -/
structure Kc where
  d : Int
  n : Int
  j : Int
  la : Option Addr
  l : List Ob
  lc : Nat
  ka : Option Addr
  ks : List Int
  kc : Nat
def Kc.cells (x : Kc) : List Value := [.int .i64 x.d, .int .i64 x.n, .int .i64 x.j, .slice x.la x.l.length x.lc, .slice x.ka x.ks.length x.kc]
def kcC (x : Kc) : Obj := .cells #[.int .i64 x.d, .int .i64 x.n, .int .i64 x.j, .slice x.la x.l.length x.lc, .slice x.ka x.ks.length x.kc] 105
/-- what is known of a call's rows -/
structure KcW (w : World) (x : Kc) : Prop where
  src : SrcO w x.la x.l
  nil : x.la = none → x.lc = 0
  cap : x.l.length ≤ x.lc
  cm : x.lc ≤ maxLen
  kin : SrcI w x.ka x.ks
  kn : x.ks.length ≤ maxLen
  n0 : -9223372036854775808 ≤ x.n ∧ x.n ≤ 9223372036854775807
  j0 : -9223372036854775808 ≤ x.j ∧ x.j ≤ 9223372036854775807
theorem KcW.below {w w' : World} {x : Kc} (h : KcW w x) (hb : Below w.heap.size w w') : KcW w' x := ⟨h.src.below hb, h.nil, h.cap, h.cm, h.kin.below hb, h.kn, h.n0, h.j0⟩
/-- calls in a row, as they are handed in -/
structure KActs (w : World) (v : Value) (L : List Kc) : Prop where
  row : (v = .slice none 0 0 ∧ L = []) ∨ ∃ ad cap, v = .slice (some ad) L.length cap ∧ ∀ (i : Nat) (x : Kc), L[i]? = some x → ∀ f, f < 5 → w.cell? (ad.add (i * 5 + f)) = x.cells[f]?
  each : ∀ x ∈ L, KcW w x
  few : L.length ≤ 9223372036854775807
theorem KActs.below {w w' : World} {v : Value} {L : List Kc} (h : KActs w v L) (hb : Below w.heap.size w w') : KActs w' v L := by
  refine ⟨?_, fun x hx => (h.each x hx).below hb, h.few⟩
  rcases h.row with e | ⟨ad, cap, e, hx⟩
  · exact .inl e
  · refine .inr ⟨ad, cap, e, fun i x hi f hf => ?_⟩
    have h5 : f < x.cells.length := by simp [Kc.cells]; omega
    have := hx i x hi f hf
    rw [List.getElem?_eq_getElem h5] at this ⊢
    exact (hb.cell (World.block_lt_of_cell? w _ this)).trans this
/-- a row that is read, and is not the stack's -/
def SrcN (O : Nat → Prop) (w : World) (a : Option Addr) (l : List Ob) : Prop := l = [] ∨ ∃ ad, a = some ad ∧ (∀ j z, (l.flatMap Ob.cells)[j]? = some z → w.cell? (ad.add j) = some z) ∧ ¬ O ad.block
theorem SrcN.src {O : Nat → Prop} {w : World} {a : Option Addr} {l : List Ob} (h : SrcN O w a l) : SrcO w a l := by
  rcases h with h | ⟨ad, e, hx, _⟩
  · exact .inl h
  · exact .inr ⟨ad, e, hx⟩
theorem add_block (a : Addr) (j : Nat) : (a.add j).block = a.block := by
  unfold Addr.add
  split <;> rfl
theorem SrcN.turn {O O' : Nat → Prop} {w w' : World} {a : Option Addr} {l : List Ob} (h : SrcN O w a l) (hF : Frm O w w') (hO : ∀ k, O' k → O k ∨ w.heap.size ≤ k) : SrcN O' w' a l := by
  rcases h with h | ⟨ad, e, hx, hn⟩
  · exact .inl h
  · by_cases hl : l = []
    · exact .inl hl
    · have h0 : 0 < (l.flatMap Ob.cells).length := by rw [obs_len]; have := List.length_pos_iff.2 hl; omega
      have hlt := World.block_lt_of_cell? w _ (hx 0 _ (List.getElem?_eq_getElem h0))
      rw [add_block] at hlt
      refine .inr ⟨ad, e, fun j z hz => ?_, fun e2 => ?_⟩
      · rw [World.cell?_of_block (w := w) (w' := w') (a := ad.add j) (by rw [add_block]; exact hF.block ad.block hlt hn)]
        exact hx j z hz
      · rcases hO _ e2 with e3 | e3
        · exact hn e3
        · omega
theorem SrcN.below {O : Nat → Prop} {w w' : World} {a : Option Addr} {l : List Ob} (h : SrcN O w a l) (hb : Below w.heap.size w w') : SrcN O w' a l := h.turn (Frm.of_below hb) (fun _ e => .inl e)
/-- the law's list -/
def MRow (O : Nat → Prop) (w : World) (v : Value) (l : List Ob) : Prop := ∃ a c, v = .slice a l.length c ∧ SrcN O w a l ∧ (a = none → c = 0) ∧ l.length ≤ c
/-- the stack with l, the law's list with t -/
structure Kp (w : World) (s : Nat) (M : Int) (O : Nat → Prop) (wr : World) (v : Value) (l t : List Ob) : Prop where
  sk : Sk O wr s M 12 13 l
  lo : ∀ k, O k → w.heap.size ≤ k
  bel : Below w.heap.size w wr
  row : MRow O wr v t
theorem Kp.step {w wr w' : World} {s : Nat} {M : Int} {O : Nat → Prop} {v : Value} {l t : List Ob} (h : Kp w s M O wr v l t) (hb : Below wr.heap.size wr w') : Kp w s M O w' v l t := by
  obtain ⟨a, c, e, hs, h1, h2⟩ := h.row
  exact ⟨h.sk.below hb, h.lo, bthen h.bel hb, ⟨a, c, e, hs.below hb, h1, h2⟩⟩
theorem Kp.turn {w wr w' : World} {s : Nat} {M : Int} {O : Nat → Prop} {v : Value} {l l' t : List Ob} (h : Kp w s M O wr v l t) (hp : SkP O wr s M 12 13 l' w') : ∃ O', Kp w s M O' w' v l' t := by
  obtain ⟨O', h1, hF, h3⟩ := hp
  have hz := h.bel.size
  obtain ⟨a, c, e, hs, g1, g2⟩ := h.row
  refine ⟨O', h1, fun k hk => ?_, ⟨hF.os.trans h.bel.os, hF.tape.trans h.bel.tape, hF.output.trans h.bel.output, Nat.le_trans hz hF.size, fun k hk => (hF.block k (by omega) (fun e => by have := h.lo k e; omega)).trans (h.bel.block k hk)⟩, a, c, e, hs.turn hF h3, g1, g2⟩
  rcases h3 k hk with e | e
  · exact h.lo k e
  · omega
/-- the law's list is another one -/
theorem Kp.other {w wr w' : World} {s : Nat} {M : Int} {O : Nat → Prop} {v v' : Value} {l t t' : List Ob} (h : Kp w s M O wr v l t) (hb : Below wr.heap.size wr w') (hs : SL w' v' t') (hn : ∀ k, isB v' k → wr.heap.size ≤ k) : Kp w s M O w' v' l t' := by
  refine ⟨h.sk.below hb, h.lo, bthen h.bel hb, ?_⟩
  obtain ⟨a, c, rfl, h1, h2⟩ := hs.form
  refine ⟨a, c, rfl, ?_, h1, h2⟩
  have hs2 := hs
  rcases hs with ⟨e, e2⟩ | ⟨g, cap, cur, e, _⟩
  · exact .inl e2
  · cases e
    rcases hs2.src with e | ⟨ad, e, hx⟩
    · exact .inl e
    · cases e
      exact .inr ⟨_, rfl, hx, fun e => by have e2 : O g := e; have := h.sk.olt _ e2; have := hn g rfl; omega⟩
/-- a row that is read -/
def Rw (w : World) (v : Value) (x : List Ob) : Prop := ∃ a c, v = .slice a x.length c ∧ SrcO w a x
theorem Rw.below {w w' : World} {v : Value} {x : List Ob} (h : Rw w v x) (hb : Below w.heap.size w w') : Rw w' v x := by
  obtain ⟨a, c, e, hs⟩ := h
  exact ⟨a, c, e, hs.below hb⟩
/-- behind a call: the stack and the law's list are one, so are the errors, and what was answered -/
def PosK (w : World) (s : Nat) (M : Int) (i : Nat) (v8 v12 v13 v14 v15 : Value) (wx : World) : Prop := ∃ (O : Nat → Prop) (l x : List Ob) (E : Int), Kp w s M O wx v8 l l ∧ l.length ≤ 100 * (i + 1) ∧ v12 = .int .i64 E ∧ v13 = .int .i64 E ∧ Rw wx v14 x ∧ Rw wx v15 x ∧ x.length ≤ 50000
end Stk
end Go.Proofs.Ytcmoppliipdfgaa
