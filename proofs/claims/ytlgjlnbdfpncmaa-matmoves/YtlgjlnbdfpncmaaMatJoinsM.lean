/-
  What leads nowhere, ahead and behind: plain mathematics, and the two calls of Concat that the law MatJoins makes with it.
-/
import Derived.Test.YtlgjlnbdfpncmaaMatConcat
namespace Go.Proofs.Ytlgjlnbdfpncmaa
open Go.RowKit
open Fx
namespace Fx
theorem fits_one : fits 65536 = true := by decide
theorem near_zero : near 0 65536 = 0 := by decide
theorem mulV_one' {x : Int} (h : fits x = true) : mulV 65536 x = x := by rw [← mulV_comm]; exact mulV_one h
theorem mulE_one' {x : Int} (h : fits x = true) : mulE 65536 x = 0 := by rw [← mulE_comm]; exact mulE_one h
theorem mulV_zero {x : Int} (h : fits x = true) : mulV x 0 = 0 := by simp [mulV, h, fits_zero, near_zero, outV]
theorem mulE_zero {x : Int} (h : fits x = true) : mulE x 0 = 0 := by simp [mulE, h, fits_zero, near_zero, outE]
theorem mulV_zero' {x : Int} (h : fits x = true) : mulV 0 x = 0 := by rw [← mulV_comm]; exact mulV_zero h
theorem mulE_zero' {x : Int} (h : fits x = true) : mulE 0 x = 0 := by rw [← mulE_comm]; exact mulE_zero h
theorem addV_zero' {v : Int} (h : fits v = true) : addV v 0 = v := by rw [← addV_comm]; exact addV_zero h
theorem addE_zero' {v : Int} (h : fits v = true) : addE v 0 = 0 := by rw [← addE_comm]; exact addE_zero h
/-- behind what leads nowhere -/
theorem con_id {a0 a1 a2 a3 a4 a5 : Int} (h0 : fits a0 = true) (h1 : fits a1 = true) (h2 : fits a2 = true) (h3 : fits a3 = true) (h4 : fits a4 = true) (h5 : fits a5 = true) :
    linV 65536 a0 0 a1 = a0 ∧ linV 0 a0 65536 a1 = a1 ∧ linV 65536 a2 0 a3 = a2 ∧ linV 0 a2 65536 a3 = a3 ∧ lin1V 65536 a4 0 a5 0 = a4 ∧ lin1V 0 a4 65536 a5 0 = a5 ∧ conE a0 a1 a2 a3 a4 a5 65536 0 0 65536 0 0 = 0 := by
  simp [conE, dltE, aplE, lin1E, linE, lin1V, linV, mulV_one' h0, mulV_one' h1, mulV_one' h2, mulV_one' h3, mulV_one' h4, mulV_one' h5, mulE_one' h0, mulE_one' h1, mulE_one' h2, mulE_one' h3, mulE_one' h4, mulE_one' h5,
    mulV_zero' h0, mulV_zero' h1, mulV_zero' h2, mulV_zero' h3, mulV_zero' h4, mulV_zero' h5, mulE_zero' h0, mulE_zero' h1, mulE_zero' h2, mulE_zero' h3, mulE_zero' h4, mulE_zero' h5,
    addV_zero' h0, addV_zero h1, addV_zero' h2, addV_zero h3, addV_zero' h4, addV_zero h5, addV_zero' h5, addE_zero' h0, addE_zero h1, addE_zero' h2, addE_zero h3, addE_zero' h4, addE_zero h5, addE_zero' h5, zero_kE]
/-- ahead of what leads nowhere -/
theorem id_con {a0 a1 a2 a3 a4 a5 : Int} (h0 : fits a0 = true) (h1 : fits a1 = true) (h2 : fits a2 = true) (h3 : fits a3 = true) (h4 : fits a4 = true) (h5 : fits a5 = true) :
    linV a0 65536 a2 0 = a0 ∧ linV a1 65536 a3 0 = a1 ∧ linV a0 0 a2 65536 = a2 ∧ linV a1 0 a3 65536 = a3 ∧ lin1V a0 0 a2 0 a4 = a4 ∧ lin1V a1 0 a3 0 a5 = a5 ∧ conE 65536 0 0 65536 0 0 a0 a1 a2 a3 a4 a5 = 0 := by
  simp [conE, dltE, aplE, lin1E, linE, lin1V, linV, mulV_one h0, mulV_one h1, mulV_one h2, mulV_one h3, mulE_one h0, mulE_one h1, mulE_one h2, mulE_one h3,
    mulV_zero h0, mulV_zero h1, mulV_zero h2, mulV_zero h3, mulE_zero h0, mulE_zero h1, mulE_zero h2, mulE_zero h3,
    addV_zero' h0, addV_zero' h1, addV_zero h2, addV_zero h3, addV_zero h4, addV_zero h5, addE_zero' h0, addE_zero' h1, addE_zero h2, addE_zero h3, addE_zero h4, addE_zero h5, addV_zero fits_zero, addE_zero fits_zero, zero_kE]
/-- do the first k of the six fit? -/
def preF (L : List Int) (k : Nat) : Bool := (L.take k).all fits
theorem preF_step {L : List Int} {k : Nat} {z : Int} (h : L[k]? = some z) : preF L (k + 1) = (preF L k && fits z) := by
  obtain ⟨hk, rfl⟩ := List.getElem?_eq_some_iff.1 h
  unfold preF
  rw [List.take_succ_eq_append_getElem hk, List.all_append]
  simp only [List.all_cons, List.all_nil, Bool.and_true]
theorem preF_six {a0 a1 a2 a3 a4 a5 : Int} (h : preF [a0, a1, a2, a3, a4, a5] 6 = true) : fits a0 = true ∧ fits a1 = true ∧ fits a2 = true ∧ fits a3 = true ∧ fits a4 = true ∧ fits a5 = true := by
  simpa [preF] using h
end Fx
def Six' (X0 X1 X2 X3 X4 X5 E : Int) (w : World) (e : Ending) (w' : World) : Prop :=
  e = .returned (.tuple #[.agg #[.int .i64 X0, .int .i64 X1, .int .i64 X2, .int .i64 X3, .int .i64 X4, .int .i64 X5], .int .i64 E]) ∧ Below w.heap.size w w'
theorem concat_id (a0 a1 a2 a3 a4 a5 : Int) : ∃ X0 X1 X2 X3 X4 X5 E,
    (∀ w, Calls Try.prog 13 #[.agg #[.int .i64 a0, .int .i64 a1, .int .i64 a2, .int .i64 a3, .int .i64 a4, .int .i64 a5], .agg #[.int .i64 65536, .int .i64 0, .int .i64 0, .int .i64 65536, .int .i64 0, .int .i64 0]] w (Six' X0 X1 X2 X3 X4 X5 E w)) ∧
    (preF [a0, a1, a2, a3, a4, a5] 6 = true → X0 = a0 ∧ X1 = a1 ∧ X2 = a2 ∧ X3 = a3 ∧ X4 = a4 ∧ X5 = a5 ∧ E = 0) := by
  refine ⟨_, _, _, _, _, _, _, fun w => matConcat_at a0 a1 a2 a3 a4 a5 65536 0 0 65536 0 0 w, fun h => ?_⟩
  obtain ⟨h0, h1, h2, h3, h4, h5⟩ := preF_six h
  obtain ⟨e0, e1, e2, e3, e4, e5, e6⟩ := con_id h0 h1 h2 h3 h4 h5
  rw [e0, e1, e2, e3, e4, e5, e6]
  simp [sel]
theorem id_concat (a0 a1 a2 a3 a4 a5 : Int) : ∃ X0 X1 X2 X3 X4 X5 E,
    (∀ w, Calls Try.prog 13 #[.agg #[.int .i64 65536, .int .i64 0, .int .i64 0, .int .i64 65536, .int .i64 0, .int .i64 0], .agg #[.int .i64 a0, .int .i64 a1, .int .i64 a2, .int .i64 a3, .int .i64 a4, .int .i64 a5]] w (Six' X0 X1 X2 X3 X4 X5 E w)) ∧
    (preF [a0, a1, a2, a3, a4, a5] 6 = true → X0 = a0 ∧ X1 = a1 ∧ X2 = a2 ∧ X3 = a3 ∧ X4 = a4 ∧ X5 = a5 ∧ E = 0) := by
  refine ⟨_, _, _, _, _, _, _, fun w => matConcat_at 65536 0 0 65536 0 0 a0 a1 a2 a3 a4 a5 w, fun h => ?_⟩
  obtain ⟨h0, h1, h2, h3, h4, h5⟩ := preF_six h
  obtain ⟨e0, e1, e2, e3, e4, e5, e6⟩ := id_con h0 h1 h2 h3 h4 h5
  rw [e0, e1, e2, e3, e4, e5, e6]
  simp [sel]
end Go.Proofs.Ytlgjlnbdfpncmaa
