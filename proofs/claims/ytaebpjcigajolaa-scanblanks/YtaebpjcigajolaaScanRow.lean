/-
  A row of bytes that came in, and a copy of it, for the laws.
-/
import Derived.Test.YtaebpjcigajolaaScanNestW
import Derived.Laws.AppendOwnNone
namespace Go.Proofs.Ytaebpjcigajolaa
open Go.RowKit
open Sc
/-- a row of bytes that came in -/
def InRow (w : World) (ad : Option Addr) (l : List UInt8) (c : Nat) : Prop :=
  l.length ≤ c ∧ ((ad = none ∧ c = 0 ∧ l = []) ∨ ∃ x, ad = some x ∧ ∀ j z, l[j]? = some z → w.cell? (x.add j) = some (.int .u8 z.toNat))
theorem InRow.rd {w : World} {ad : Option Addr} {l : List UInt8} {c : Nat} (h : InRow w ad l c) : RdB w w.heap.size ad l := by
  intro i z hz
  rcases h.2 with ⟨_, _, rfl⟩ | ⟨x, rfl, hx⟩
  · simp at hz
  · obtain ⟨bb, off, spot⟩ := x
    have hc := hx i z hz
    have h0l : 0 < l.length := by have := (List.getElem?_eq_some_iff.1 hz).1; omega
    have hspot : spot = none := by simpa [Addr.add] using World.cell?_spot (hx 0 _ (List.getElem?_eq_getElem h0l))
    subst hspot
    refine ⟨bb, off, rfl, ?_, ?_⟩
    · have := World.block_lt_of_cell? w _ hc
      by_cases h0 : i = 0
      · subst h0; simpa [Addr.add] using this
      · simpa [Addr.add, h0] using this
    · by_cases h0 : i = 0
      · subst h0; simpa [Addr.add] using hc
      · simpa [Addr.add, h0] using hc
theorem InRow.below {w w' : World} {ad : Option Addr} {l : List UInt8} {c : Nat} (h : InRow w ad l c) (hb : Below w.heap.size w w') : InRow w' ad l c := by
  refine ⟨h.1, ?_⟩
  rcases h.2 with h2 | ⟨x, rfl, hx⟩
  · exact .inl h2
  · exact .inr ⟨x, rfl, fun j z hz => (hb.cell (World.block_lt_of_cell? w _ (hx j z hz))).trans (hx j z hz)⟩
/-- the bytes of numbers that fit -/
def bytesOf (zs : List Int) (n : Nat) : List UInt8 := (zs.take n).map fun z => UInt8.ofNat z.toNat
theorem inRow_of {w : World} {a : Option Addr} {len cap : Nat} {zs : List Int}
    (h : (a = none ∧ len = 0 ∧ cap = 0 ∧ zs = []) ∨ ∃ x, a = some x ∧ len ≤ cap ∧ cap ≤ maxLen ∧ zs.length = cap ∧ (∀ i, i < zs.length → w.cell? (x.add i) = some (.int .u8 (zs.getD i 0))) ∧ ∀ n ∈ zs, (Lit.int .u8 n).wf = true) :
    InRow w a (bytesOf zs len) cap ∧ (bytesOf zs len).length = len ∧ cap ≤ maxLen := by
  rcases h with ⟨rfl, rfl, rfl, rfl⟩ | ⟨x, rfl, h1, h2, h3, h4, h5⟩
  · exact ⟨⟨by simp [bytesOf], .inl ⟨rfl, rfl, by simp [bytesOf]⟩⟩, by simp [bytesOf], Nat.zero_le _⟩
  · have hl : (bytesOf zs len).length = len := by simp [bytesOf]; omega
    refine ⟨⟨by omega, .inr ⟨x, rfl, fun j z hz => ?_⟩⟩, hl, h2⟩
    unfold bytesOf at hz
    rw [List.getElem?_map, List.getElem?_take] at hz
    split at hz
    · obtain ⟨y, hy, rfl⟩ := Option.map_eq_some_iff.1 hz
      obtain ⟨hj, hy2⟩ := List.getElem?_eq_some_iff.1 hy
      have hc := h4 j hj
      rw [List.getD_eq_getElem?_getD, hy] at hc
      rw [hc]
      have := u8_wf (h5 y (by rw [← hy2]; exact List.getElem_mem hj))
      have e : ((UInt8.ofNat y.toNat).toNat : Int) = y := by simp; omega
      rw [e]; rfl
    · simp at hz
/-- a copy in new memory: what an append to an empty row of one's own leaves -/
theorem made_ownS (w : World) : (w.alloc (.cells #[] 5)).ownsRow w.heap.size 5 1 (.slice (some ⟨w.heap.size, 0, none⟩) 0 0) 0 [] :=
  World.ownsRow_made w #[] 0 (Nat.le_refl _) (by unfold maxLen; omega) rfl
theorem src_cellsS {w : World} {l : List UInt8} {x : Addr} (o : Obj) (h : ∀ j z, l[j]? = some z → w.cell? (x.add j) = some (.int .u8 z.toNat)) :
    ∀ j u, (l.map bv)[j]? = some u → (w.alloc o).cell? (x.add j) = some u := by
  intro j u hu
  rw [List.getElem?_map] at hu
  obtain ⟨z, hz, rfl⟩ := Option.map_eq_some_iff.1 hu
  have hc := h j z hz
  have hlt := World.block_lt_of_cell? w _ hc
  rw [World.cell?_alloc_lt _ _ _ (by simpa using hlt)]
  exact hc
theorem bvs_one (l : List UInt8) : ∀ u ∈ l.map bv, u.oneCell' = true := by
  intro u hu
  obtain ⟨z, _, rfl⟩ := List.mem_map.1 hu
  rfl
theorem own_rd {w : World} {B : Nat} {v : Value} {l : List UInt8} (h : w.ownsRow B 5 1 v l.length (l.map bv)) :
    ∃ a c, v = .slice a l.length c ∧ l.length ≤ c ∧ RdB w w.heap.size a l := by
  rcases h.2 with ⟨rfl, h0⟩ | ⟨g, cap, cur, rfl, _, hh, hc, _, _, hcur⟩
  · have : l = [] := List.eq_nil_of_length_eq_zero h0
    subst this
    exact ⟨none, 0, rfl, Nat.le_refl _, fun i c hc => by simp at hc⟩
  · refine ⟨some ⟨g, 0, none⟩, cap, rfl, hc, fun k z hz => ⟨g, 0, rfl, lt_of_some hh, ?_⟩⟩
    have hc := h.cells (g := g) rfl k (bv z) (by rw [List.getElem?_map, hz]; rfl)
    by_cases hk : k = 0
    · subst hk; simpa [Addr.add, bv] using hc
    · simpa [Addr.add, hk, bv] using hc
/-- what the copy is, whichever way it was made -/
theorem copied {w : World} {ad : Option Addr} {l : List UInt8} {c : Nat} (h : InRow w ad l c) (hm : l.length ≤ 100000) (ty : TypeId) :
    ∃ a2 c2 w2, (Builtin.append_ #[22, 22] ty #[.slice (some ⟨w.heap.size, 0, none⟩) 0 0, .slice ad l.length c]).run Try.prog (w.alloc (.cells #[] 5)) = .ok (.slice a2 l.length c2) w2 ∧
      Below w.heap.size w w2 ∧ l.length ≤ c2 ∧ RdB w2 w2.heap.size a2 l ∧ w.heap.size + 1 ≤ w2.heap.size ∧ (∀ b o, a2 = some ⟨b, o, none⟩ → w.heap.size ≤ b) := by
  obtain ⟨i0, hi, hz0, hz1, hz2⟩ := info_parts u8_infoS
  rcases h.2 with ⟨rfl, rfl, rfl⟩ | ⟨x, rfl, hx⟩
  · have hr := run_append_owned_none (P := Try.prog) (w := w.alloc (.cells #[] 5)) w.heap.size 22 ty 5 i0 1 Try.underlying22 hi _ 0 [] (made_ownS w)
    exact ⟨some ⟨w.heap.size, 0, none⟩, 0, _, hr, (Below.refl _ _).alloc (Nat.le_refl _) _, Nat.le_refl _, fun i c hc => by simp at hc, by simp, fun b o e => by cases e; exact Nat.le_refl _⟩
  · obtain ⟨v', w', hr, h2, h3, h4⟩ := run_append_own (P := Try.prog) (w.alloc (.cells #[] 5)) w.heap.size 22 ty 5 i0 (.int .u8 0) 1 1 Try.underlying22 hi hz0 hz1 hz2 rfl (by decide) _ 0 [] (made_ownS w) x l.length c (l.map bv) (by simp) (src_cellsS _ hx) (bvs_one l) (by unfold maxLen; omega) (by omega) (by simp)
    rw [Nat.zero_add, List.nil_append] at h2
    obtain ⟨a2, c2, rfl, hc, hrd⟩ := own_rd h2
    have hb : Below w.heap.size w w' := Below.grown (w := w.alloc (.cells #[] 5)) ((Below.refl _ _).alloc (Nat.le_refl _) _) h3 (by simp) (by intro k hk; simp [Value.ownBlock] at hk; omega)
    refine ⟨a2, c2, w', hr, hb, hc, hrd, ?_, fun b o e => ?_⟩
    · have := h3.size; simp at this; omega
    · subst e
      have := (h2.lt b rfl).1
      exact this
/-- an append whose run is known, guarded or not -/
theorem wpList_append_run {P : Program} {w w2 : World} {ops : Array Oper} {rest : List Oper} {o : Oper} {a : Act} {Q : Exit → Act → World → Prop} (hw : Region.wanted o (yielded ops a.tmps) = true) (s x : Operand) (t ty : TypeId) (v : Value)
    (ho : o.op = .call { callee := .builtin .append, args := #[s, x], argTypes := #[t, t] }) (hty : o.type = ty) (us ux : Value) (hs : a.eval s = us) (hx : a.eval x = ux)
    (hr : (Builtin.append_ #[t, t] ty #[us, ux]).run P w = .ok v w2) (h : wpList P ops Q rest (a.put o.dst v) w2) : wpList P ops Q (o :: rest) a w := by
  refine BigFrame.wpList_want hw fun K hK => ?_
  unfold Oper.wp execOp
  simp only [ho, hty, resolve, invoke, builtin, Sem.run_bind, Sem.run_pure, Result.andThen_ok, List.map_toArray, List.map_cons, List.map_nil, hs, hx, hr]
  exact hK _ _ h
end Go.Proofs.Ytaebpjcigajolaa
