/-
  An object as the reader reads it: taken apart, and put together.
-/
import Derived.Test.YtgbpldfcahajeaaDoorAriOb
import Derived.WalkKit
import Derived.ProofKit
import Derived.OpenShut
import Derived.Lib.SmallJoins
import Derived.ChangeMaps5
namespace Go.Proofs.YtgbpldfcahajeaaDoor
open Go.Joins Go.ChangeShapes Go.WideShapes Go.ChangeAt Go.RowKit Go.Deep
open Ari
namespace Ari
section
variable {H : Type} {enc : TypeId × Value → H} {w : World} {base : Nat} {spare : Nat → Bool} {held : Bool}
theorem list8 {α : Type} (l : List α) (h : l.length = 8) : ∃ a b c d e f g i, l = [a, b, c, d, e, f, g, i] := by
  match l, h with
  | [a, b, c, d, e, f, g, i], _ => exact ⟨a, b, c, d, e, f, g, i, rfl⟩
theorem cells_ob : Tryd.prog.cellsOf 38 = 8 := by kernel_rfl
theorem cells_int : Tryd.prog.cellsOf 3 = 1 := by kernel_rfl
theorem cells_bool : Tryd.prog.cellsOf 4 = 1 := by kernel_rfl
theorem cells_str : Tryd.prog.cellsOf 9 = 1 := by kernel_rfl
/-- an object's datum -/
def obD (o : Ob) : DataW H := .agg [.lit (.int .i64 o.kind), .lit (.bool o.exec), .lit (.int .i64 o.acc), .lit (.int .i64 o.n), .lit (.string o.name.data.toList), .lit (.int .i64 o.ref), .lit (.int .i64 o.frm), .lit (.int .i64 o.len)]
structure ObW (o : Ob) : Prop where
  k : (Lit.int .i64 o.kind).wf = true
  a : (Lit.int .i64 o.acc).wf = true
  n : (Lit.int .i64 o.n).wf = true
  s : o.name.size ≤ maxLen
  r : (Lit.int .i64 o.ref).wf = true
  f : (Lit.int .i64 o.frm).wf = true
  l : (Lit.int .i64 o.len).wf = true
set_option maxRecDepth 100000 in
theorem open_ob {r : Reach} {b0 : Nat} {v : Value} {d : DataW H} {ps : List MemPlace} (hv : Value.okWide Tryd.prog w r b0 38 v) (hd : DataW.Trod enc Tryd.prog w base spare held 38 v d ps) :
    ∃ o : Ob, v = o.val ∧ d = obD o ∧ ps = [] ∧ ObW o := by
  obtain ⟨cs, rfl, hsz⟩ := okWide_struct Tryd.underlying38 hv
  rw [cells_ob] at hsz
  obtain ⟨l⟩ := cs
  obtain ⟨c0, c1, c2, c3, c4, c5, c6, c7, rfl⟩ := list8 l (by simpa using hsz)
  obtain ⟨fuel, hf⟩ := hd
  obtain ⟨xs, m, _, hx, _, hlen, hg⟩ := DataW.trod_struct Tryd.underlying38 hf
  obtain ⟨y0, y1, y2, y3, y4, y5, y6, y7, rfl⟩ := list8 xs (by simpa using hlen)
  have g0 := hg 0 _ rfl
  have g1 := hg 1 _ rfl
  have g2 := hg 2 _ rfl
  have g3 := hg 3 _ rfl
  have g4 := hg 4 _ rfl
  have g5 := hg 5 _ rfl
  have g6 := hg 6 _ rfl
  have g7 := hg 7 _ rfl
  simp [Value.cells, cells_int, cells_bool, cells_str] at g0 g1 g2 g3 g4 g5 g6 g7
  obtain ⟨z0, e0, rfl, w0⟩ := DataW.trod_int Tryd.underlying3 g0
  obtain ⟨z1, e1, rfl⟩ := DataW.trod_bool Tryd.underlying4 g1
  obtain ⟨z2, e2, rfl, w2⟩ := DataW.trod_int Tryd.underlying3 g2
  obtain ⟨z3, e3, rfl, w3⟩ := DataW.trod_int Tryd.underlying3 g3
  obtain ⟨z4, e4, rfl, w4⟩ := DataW.trod_string Tryd.underlying9 g4
  obtain ⟨z5, e5, rfl, w5⟩ := DataW.trod_int Tryd.underlying3 g5
  obtain ⟨z6, e6, rfl, w6⟩ := DataW.trod_int Tryd.underlying3 g6
  obtain ⟨z7, e7, rfl, w7⟩ := DataW.trod_int Tryd.underlying3 g7
  simp at e0 e1 e2 e3 e4 e5 e6 e7
  subst e0 e1 e2 e3 e4 e5 e6 e7
  simp only [Prod.mk.injEq] at hx
  obtain ⟨rfl, rfl⟩ := hx
  exact ⟨⟨z0, z1, z2, z3, z4, z5, z6, z7⟩, rfl, rfl, rfl, ⟨w0, w2, w3, w4, w5, w6, w7⟩⟩
theorem shut_ob {o : Ob} (h : ObW o) : DataW.Trod enc Tryd.prog w base spare held 38 o.val (obD o) [] := ⟨2, by
  simp [DataW.trod, Value.cells, Ob.val, obD, Tryd.underlying38, Tryd.underlying3, Tryd.underlying4, Tryd.underlying9, cells_ob, cells_int, cells_bool, cells_str, h.k, h.a, h.n, h.s, h.r, h.f, h.l]⟩
end
end Ari
end Go.Proofs.YtgbpldfcahajeaaDoor
