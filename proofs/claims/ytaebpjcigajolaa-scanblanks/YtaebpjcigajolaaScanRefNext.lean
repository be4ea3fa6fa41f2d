/-
  The document's own Next, by a contract; which number a word is comes in as what the document's Token answers.
-/
import Derived.Test.YtaebpjcigajolaaScanRefHex
namespace Go.Proofs.Ytaebpjcigajolaa
open Go.RowKit
open Sc
namespace Sc
theorem hx_olen (h : Option UInt8) (s o r : List UInt8) (e : hx h s = some (o, r)) : o.length + r.length ≤ s.length := by
  induction s generalizing h o r with
  | nil => cases e
  | cons c s ih =>
    rw [hx] at e
    split at e
    · cases e; cases h <;> simp [hlast]; omega
    split at e
    · have := ih _ _ _ e; simp; omega
    split at e
    · cases e
    split at e
    · have := ih _ _ _ e; simp; omega
    · cases hq : hx none s with
      | none => rw [hq] at e; cases e
      | some y => rw [hq] at e; obtain ⟨y1, y2⟩ := y; cases e; have := ih _ _ _ hq; simp; omega
end Sc
/-- what the document's Next leaves -/
def NxR (l : List UInt8) (o : Out) (w : World) (e : Ending) (w' : World) : Prop := e = .returned (nextV l o) ∧ Below w.heap.size w w'
section
variable {l t r : List UInt8} {o : Out} {w w' : World} {q : Nat} {k n x : Int}
theorem nxR_err (h : o = .err x) (hb : Below w.heap.size w w') : NxR l o w (.returned (.tuple #[.agg #[.int .i64 0, .int .i64 0, .string ⟨#[]⟩], .int .i64 0, .int .i64 x])) w' := by
  subst h; exact ⟨rfl, hb⟩
theorem nxR_tok (h : o = .tok k n t r) (hq : l.drop q = r) (hql : q ≤ l.length) (hb : Below w.heap.size w w') : NxR l o w (.returned (.tuple #[.agg #[.int .i64 k, .int .i64 n, .string ⟨t.toArray⟩], .int .i64 q, .int .i64 0])) w' := by
  subst h
  have e := congrArg List.length hq
  rw [List.length_drop] at e
  have e2 : l.length - r.length = q := by omega
  refine ⟨?_, hb⟩
  show Ending.returned (.tuple #[.agg #[.int .i64 k, .int .i64 n, .string ⟨t.toArray⟩], .int .i64 (q : Int), .int .i64 0]) = Ending.returned (.tuple #[.agg #[.int .i64 k, .int .i64 n, .string ⟨t.toArray⟩], .int .i64 ((l.length - r.length : Nat) : Int), .int .i64 0])
  rw [e2]
end
/-- a token and two slots as results -/
theorem results_tokg {fn : Func} {a b c : Nat} (hfn : fn.results = #[.cell a 25, .tmp b, .tmp c]) (tmps : Array Value) (W : World) (B : Nat) (k n : Int) (t : ByteArray) (hp : tmps.getD a undef = .pointer (some ⟨B, 0, none⟩))
    (h0 : W.cell? ⟨B, 0, none⟩ = some (.int .i64 k)) (h1 : W.cell? ⟨B, 1, none⟩ = some (.int .i64 n)) (h2 : W.cell? ⟨B, 2, none⟩ = some (.string t)) :
    (results fn tmps).run Try.prog W = .ok (.tuple #[.agg #[.int .i64 k, .int .i64 n, .string t], tmps.getD b undef, tmps.getD c undef]) W := by
  have hp2 : tmps[a]?.getD undef = .pointer (some ⟨B, 0, none⟩) := by rw [← hp]; simp
  simp [results, hfn, go_sem, hp2, h0, h1, h2]
theorem tok_endg {fn : Func} {a b c : Nat} (hfn : fn.results = #[.cell a 25, .tmp b, .tmp c]) {tmps : Array Value} {w2 : World} {T : Nat} {k0 n0 k n : Int} {t0 t : ByteArray} {x y : Value} {Q : Ending → World → Prop} (hT : w2.heap[T]? = some (tokB k0 n0 t0)) (hp : tmps.getD a undef = .pointer (some ⟨T, 0, none⟩))
    (hx : tmps.getD b undef = x) (hy : tmps.getD c undef = y) (hq : Q (.returned (.tuple #[.agg #[.int .i64 k, .int .i64 n, .string t], x, y])) (tokSet w2 T k n t)) : bodyPost Try.prog fn Q Exit.ret { tmps := tmps, defers := [] } (tokSet w2 T k n t) := by
  obtain ⟨r0, r1, r2, _⟩ := tok_c (tokSet_at hT k n t)
  subst hx hy
  exact bodyPost_ret (results_tokg hfn _ (tokSet w2 T k n t) T k n t hp r0 r1 r2) rfl hq
theorem refNone_at (x : Int) (w : World) : Calls Try.prog 20 #[.int .i64 x] w fun e w' => e = .returned (.tuple #[.agg #[.int .i64 0, .int .i64 0, .string ⟨#[]⟩], .int .i64 0, .int .i64 x]) ∧ Below w.heap.size w w' := by
  go_enter Try.func20, Try.ntmps20
  go_wp2_with fail
  exact bodyPost_ret (v := .tuple #[.agg #[.int .i64 0, .int .i64 0, .string ⟨#[]⟩], .int .i64 0, .int .i64 x]) (by simp [results, Try.results20, go_sem]) rfl ⟨rfl, (Below.refl _ _).alloc (Nat.le_refl _) _⟩
/-- what the document's name leaves -/
def NamR (l : List UInt8) (k : Int) (p q : Nat) (w : World) (e : Ending) (w' : World) : Prop :=
  e = .returned (if 127 < q - p then .tuple #[.agg #[.int .i64 0, .int .i64 0, .string ⟨#[]⟩], .int .i64 0, .int .i64 9] else .tuple #[.agg #[.int .i64 k, .int .i64 0, .string ⟨((l.drop p).take (q - p)).toArray⟩], .int .i64 q, .int .i64 0]) ∧ Below w.heap.size w w'
theorem namR_no {l : List UInt8} {k : Int} {p q : Nat} {w w' : World} (h : 127 < q - p) (hb : Below w.heap.size w w') : NamR l k p q w (.returned (.tuple #[.agg #[.int .i64 0, .int .i64 0, .string ⟨#[]⟩], .int .i64 0, .int .i64 9])) w' := by
  unfold NamR; rw [if_pos h]; exact ⟨rfl, hb⟩
theorem namR_yes {l t : List UInt8} {k : Int} {p q : Nat} {w w' : World} (h : ¬ 127 < q - p) (ht : (l.drop p).take (q - p) = t) (hb : Below w.heap.size w w') : NamR l k p q w (.returned (.tuple #[.agg #[.int .i64 k, .int .i64 0, .string ⟨t.toArray⟩], .int .i64 q, .int .i64 0])) w' := by
  subst ht; unfold NamR; rw [if_neg h]; exact ⟨rfl, hb⟩
theorem refName_at {w : World} {cap p q b off : Nat} {l : List UInt8} (k : Int) (hrd : RdB w w.heap.size (some ⟨b, off, none⟩) l) (hcl : l.length ≤ cap) (hl : l.length ≤ 65535) (hpq : p ≤ q) (hq : q ≤ l.length) :
    Calls Try.prog 24 #[.int .i64 k, .slice (some ⟨b, off, none⟩) l.length cap, .int .i64 p, .int .i64 q] w (NamR l k p q w) := by
  by_cases h127 : 127 < q - p
  · have HN := Lib.hid h127
    have hd : decide ((127 : Int) < (q : Int) - (p : Int)) = true := decide_eq_true (by omega)
    clear h127 hrd
    go_enter Try.func24, Try.ntmps24
    go_wp2_with fail
    refine (refNone_at 9 _).mono ?_; rintro e w2 ⟨rfl, hb2⟩
    have hT : w2.heap[w.heap.size]? = some (tokB 0 0 ⟨#[]⟩) := (hb2.block w.heap.size (by simp)).trans (tok_new w 0 0 ⟨#[]⟩)
    obtain ⟨t0, t1, t2, g0, g1, g2⟩ := tok_c hT
    have HT := Lib.hid hT
    have HB := Lib.hid (((Below.refl w.heap.size w).alloc (Nat.le_refl _) (tokB 0 0 ⟨#[]⟩)).trans (hb2.mono (by simp)))
    clear hb2 hT
    go_wp2_with fail
    exact tok_endg Try.results24 HT.out rfl rfl rfl (namR_no HN.out (((HB.out.setCell (p := ⟨w.heap.size, 0, none⟩) (Nat.le_refl _) _).setCell (p := ⟨w.heap.size, 1, none⟩) (Nat.le_refl _) _).setCell (p := ⟨w.heap.size, 2, none⟩) (Nat.le_refl _) _))
  · have HN := Lib.hid h127
    have hd : decide ((127 : Int) < (q : Int) - (p : Int)) = false := decide_eq_false (by omega)
    obtain ⟨t, ht⟩ : ∃ t, (l.drop p).take (q - p) = t := ⟨_, rfl⟩
    have htl : t.length = q - p := by rw [← ht]; simp; omega
    have hrd2 := hrd.below ((Below.refl w.heap.size w).alloc (Nat.le_refl _) (tokB 0 0 ⟨#[]⟩))
    have HE := Lib.hid ht
    by_cases hcap : cap = p
    · have hq0 : q - p = 0 := by omega
      have h0 : t = [] := List.eq_nil_of_length_eq_zero (by rw [htl]; exact hq0)
      have hcv : (convert 22 9 (.slice (some ⟨b, off, none⟩) (q - p) 0)).run Try.prog (w.alloc (tokB 0 0 ⟨#[]⟩)) = .ok (.string ⟨t.toArray⟩) (w.alloc (tokB 0 0 ⟨#[]⟩)) := by
        rw [hq0, h0]
        exact conv_rd (N := 0) (a := some ⟨b, off, none⟩) (t := []) (fun i c hc => by simp at hc)
      unfold tokB at hcv
      subst hcap
      clear h127 hrd hrd2 ht htl h0 hq0
      go_enter Try.func24, Try.ntmps24
      go_wp2_with fail
      exact bodyPost_ret (v := .tuple #[.agg #[.int .i64 k, .int .i64 0, .string ⟨t.toArray⟩], .int .i64 q, .int .i64 0]) (by simp [results, Try.results24, go_sem]) rfl (namR_yes HN.out HE.out ((Below.refl _ _).alloc (Nat.le_refl _) _))
    · have hcv : (convert 22 9 (.slice (some ⟨b, off + p, none⟩) (q - p) (cap - p))).run Try.prog (w.alloc (tokB 0 0 ⟨#[]⟩)) = .ok (.string ⟨t.toArray⟩) (w.alloc (tokB 0 0 ⟨#[]⟩)) := by
        have := conv_rd (c := cap - p) (rd_at (p := p) (k := q - p) hrd2)
        rw [ht, htl] at this; exact this
      unfold tokB at hcv
      clear h127 hrd hrd2 ht htl
      go_enter Try.func24, Try.ntmps24
      go_wp2_with fail
      exact bodyPost_ret (v := .tuple #[.agg #[.int .i64 k, .int .i64 0, .string ⟨t.toArray⟩], .int .i64 q, .int .i64 0]) (by simp [results, Try.results24, go_sem]) rfl (namR_yes HN.out HE.out ((Below.refl _ _).alloc (Nat.le_refl _) _))
end Go.Proofs.Ytaebpjcigajolaa
