/-
  An array of six integers and a struct of two, as the reader reads them: taken apart, and put together.
-/
import Derived.Test.YtlgjlnbdfpncmaaRows
import Derived.WalkKit
import Derived.ProofKit
import Derived.OpenShut
namespace Go.Proofs.Ytlgjlnbdfpncmaa
open Go.ChangeShapes Go.WideShapes Go.ChangeAt Go.RowKit
section
variable {H : Type} {enc : TypeId × Value → H} {P : Program} {w : World} {base : Nat} {spare : Nat → Bool} {held : Bool}
theorem list6 {α : Type} (l : List α) (h : (⟨l⟩ : Array α).size = 6) : ∃ a b c d e f, l = [a, b, c, d, e, f] := by
  match l, h with
  | [a, b, c, d, e, f], _ => exact ⟨a, b, c, d, e, f, rfl⟩
theorem list6' {α : Type} (l : List α) (h : l.length = 6) : ∃ a b c d e f, l = [a, b, c, d, e, f] := list6 l (by simpa using h)
theorem list2 {α : Type} (l : List α) (h : (⟨l⟩ : Array α).size = 2) : ∃ a b, l = [a, b] := by
  match l, h with
  | [a, b], _ => exact ⟨a, b, rfl⟩
theorem open_six {r : Reach} {b0 : Nat} {t e : TypeId} {k : IntKind} {v : Value} {d : DataW H} {ps : List MemPlace} (ht : P.underlying t = some (.array 6 e)) (he : P.underlying e = some (.int k)) (hce : P.cellsOf e = 1) (hct : P.cellsOf t = 6)
    (hval : Value.okWide P w r b0 t v) (hd : DataW.Trod enc P w base spare held t v d ps) :
    ∃ z0 z1 z2 z3 z4 z5, v = .agg #[.int k z0, .int k z1, .int k z2, .int k z3, .int k z4, .int k z5] ∧ d = .agg [.lit (.int k z0), .lit (.int k z1), .lit (.int k z2), .lit (.int k z3), .lit (.int k z4), .lit (.int k z5)] ∧ ps = [] ∧
      (Lit.int k z0).wf = true ∧ (Lit.int k z1).wf = true ∧ (Lit.int k z2).wf = true ∧ (Lit.int k z3).wf = true ∧ (Lit.int k z4).wf = true ∧ (Lit.int k z5).wf = true := by
  obtain ⟨cs, rfl, hsz, _⟩ : ∃ cs, v = .agg cs ∧ cs.size = P.cellsOf t ∧ Row.okWide P w r b0 t cs := by
    simpa [Value.okWide, ht] using hval
  rw [hct] at hsz
  obtain ⟨l⟩ := cs
  obtain ⟨c0, c1, c2, c3, c4, c5, rfl⟩ := list6 l hsz
  obtain ⟨fuel, hf⟩ := hd
  obtain ⟨xs, m, _, hx, _, hlen, hel⟩ := DataW.trod_array ht hf
  obtain ⟨y0, y1, y2, y3, y4, y5, rfl⟩ := list6' xs hlen
  have g0 := hel 0 (by omega)
  have g1 := hel 1 (by omega)
  have g2 := hel 2 (by omega)
  have g3 := hel 3 (by omega)
  have g4 := hel 4 (by omega)
  have g5 := hel 5 (by omega)
  simp [hce, Value.cells] at g0 g1 g2 g3 g4 g5
  obtain ⟨z0, e0, rfl, w0⟩ := DataW.trod_int he g0
  obtain ⟨z1, e1, rfl, w1⟩ := DataW.trod_int he g1
  obtain ⟨z2, e2, rfl, w2⟩ := DataW.trod_int he g2
  obtain ⟨z3, e3, rfl, w3⟩ := DataW.trod_int he g3
  obtain ⟨z4, e4, rfl, w4⟩ := DataW.trod_int he g4
  obtain ⟨z5, e5, rfl, w5⟩ := DataW.trod_int he g5
  simp at e0 e1 e2 e3 e4 e5
  subst e0 e1 e2 e3 e4 e5
  simp only [Prod.mk.injEq] at hx
  obtain ⟨rfl, rfl⟩ := hx
  exact ⟨z0, z1, z2, z3, z4, z5, rfl, rfl, rfl, w0, w1, w2, w3, w4, w5⟩
theorem shut_six {t e : TypeId} {k : IntKind} {z0 z1 z2 z3 z4 z5 : Int} (ht : P.underlying t = some (.array 6 e)) (he : P.underlying e = some (.int k)) (hce : P.cellsOf e = 1) (hct : P.cellsOf t = 6)
    (w0 : (Lit.int k z0).wf = true) (w1 : (Lit.int k z1).wf = true) (w2 : (Lit.int k z2).wf = true) (w3 : (Lit.int k z3).wf = true) (w4 : (Lit.int k z4).wf = true) (w5 : (Lit.int k z5).wf = true) :
    DataW.Trod enc P w base spare held t (.agg #[.int k z0, .int k z1, .int k z2, .int k z3, .int k z4, .int k z5]) (.agg [.lit (.int k z0), .lit (.int k z1), .lit (.int k z2), .lit (.int k z3), .lit (.int k z4), .lit (.int k z5)]) [] :=
  ⟨2, by simp [DataW.trod, Value.cells, ht, he, hct, hce, w0, w1, w2, w3, w4, w5, show List.range 6 = [0, 1, 2, 3, 4, 5] from rfl]⟩
theorem open_two {r : Reach} {b0 : Nat} {t : TypeId} {f0 f1 : Field} {k : IntKind} {v : Value} {d : DataW H} {ps : List MemPlace} (ht : P.underlying t = some (.struct #[f0, f1])) (he : P.underlying f0.type = some (.int k)) (he1 : f1.type = f0.type) (hce : P.cellsOf f0.type = 1) (hct : P.cellsOf t = 2)
    (ho0 : f0.offset = 0) (ho1 : f1.offset = 1) (hval : Value.okWide P w r b0 t v) (hd : DataW.Trod enc P w base spare held t v d ps) :
    ∃ z0 z1, v = .agg #[.int k z0, .int k z1] ∧ d = .agg [.lit (.int k z0), .lit (.int k z1)] ∧ ps = [] ∧ (Lit.int k z0).wf = true ∧ (Lit.int k z1).wf = true := by
  obtain ⟨cs, rfl, hsz⟩ := okWide_struct ht hval
  rw [hct] at hsz
  obtain ⟨l⟩ := cs
  obtain ⟨c0, c1, rfl⟩ := list2 l hsz
  obtain ⟨fuel, hf⟩ := hd
  obtain ⟨y0, y1, m, hx, _, hy0, hy1⟩ := trod_struct2 ht hf
  rw [he1] at hy1
  simp [Value.cells, hce, ho0, ho1] at hy0 hy1
  obtain ⟨z0, e0, rfl, w0⟩ := DataW.trod_int he hy0
  obtain ⟨z1, e1, rfl, w1⟩ := DataW.trod_int he hy1
  simp at e0 e1
  subst e0 e1
  simp only [Prod.mk.injEq] at hx
  obtain ⟨rfl, rfl⟩ := hx
  exact ⟨z0, z1, rfl, rfl, rfl, w0, w1⟩
theorem shut_two {t : TypeId} {f0 f1 : Field} {k : IntKind} {z0 z1 : Int} (ht : P.underlying t = some (.struct #[f0, f1])) (he : P.underlying f0.type = some (.int k)) (he1 : f1.type = f0.type) (hce : P.cellsOf f0.type = 1) (hct : P.cellsOf t = 2)
    (ho0 : f0.offset = 0) (ho1 : f1.offset = 1) (w0 : (Lit.int k z0).wf = true) (w1 : (Lit.int k z1).wf = true) :
    DataW.Trod enc P w base spare held t (.agg #[.int k z0, .int k z1]) (.agg [.lit (.int k z0), .lit (.int k z1)]) [] := ⟨2, by
  have g0 : DataW.trod enc P w base spare held 1 f0.type [.int k z0] = some (.lit (.int k z0), []) := by simp [DataW.trod, he, w0]
  have g1 : DataW.trod enc P w base spare held 1 f1.type [.int k z1] = some (.lit (.int k z1), []) := by simp [DataW.trod, he1, he, w1]
  have := trod_struct2_mk (enc := enc) (w := w) (base := base) (spare := spare) (held := held) (n := 1) (cs := [.int k z0, .int k z1]) ht (by simp [hct]) (by simpa [hce, ho0] using g0) (by simpa [he1, hce, ho1] using g1)
  simpa [Value.cells] using this⟩
end
end Go.Proofs.Ytlgjlnbdfpncmaa
