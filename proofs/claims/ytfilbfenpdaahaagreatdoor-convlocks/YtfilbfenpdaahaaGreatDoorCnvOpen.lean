/-
  A thing as the reader reads it: taken apart, and put together.
-/
import Derived.Test.YtfilbfenpdaahaaGreatDoorCnvBuild
import Derived.WalkKit
import Derived.ProofKit
import Derived.OpenShut
import Derived.Lib.SmallJoins
import Derived.ChangeMaps5
namespace Go.Proofs.YtfilbfenpdaahaaGreatDoor
open Go.Joins Go.ChangeShapes Go.WideShapes Go.ChangeAt Go.RowKit Go.Deep
namespace Cn
section
variable {H : Type} {enc : TypeId × Value → H} {w : World} {base : Nat} {spare : Nat → Bool} {held : Bool}
theorem list_six {α : Type} (l : List α) (h : l.length = 6) : ∃ a b c d e f, l = [a, b, c, d, e, f] := by
  match l, h with
  | [a, b, c, d, e, f], _ => exact ⟨a, b, c, d, e, f, rfl⟩
theorem cells_tg : Tryz.prog.cellsOf 42 = 6 := by kernel_rfl
theorem cells_int : Tryz.prog.cellsOf 3 = 1 := by kernel_rfl
theorem cells_bool : Tryz.prog.cellsOf 4 = 1 := by kernel_rfl
theorem cells_str : Tryz.prog.cellsOf 9 = 1 := by kernel_rfl
/-- a thing's datum -/
def tgD (t : Tg) : DataW H := .agg [.lit (.int .i64 t.kind), .lit (.int .i64 t.n), .lit (.int .i64 t.acc), .lit (.string t.name.data.toList), .lit (.string t.text.data.toList), .lit (.bool t.exec)]
structure TgW (t : Tg) : Prop where
  k : (Lit.int .i64 t.kind).wf = true
  n : (Lit.int .i64 t.n).wf = true
  a : (Lit.int .i64 t.acc).wf = true
  s : t.name.size ≤ maxLen
  b : t.text.size ≤ maxLen
theorem TgW.bounds {t : Tg} (h : TgW t) : -9223372036854775808 ≤ t.n ∧ t.n ≤ 9223372036854775807 := by
  have := h.n
  simpa [Lit.wf, IntKind.min, IntKind.max, IntKind.signed, IntKind.bits] using this
set_option maxRecDepth 100000 in
theorem open_tg {r : Reach} {b0 : Nat} {v : Value} {d : DataW H} {ps : List MemPlace} (hv : Value.okWide Tryz.prog w r b0 42 v) (hd : DataW.Trod enc Tryz.prog w base spare held 42 v d ps) :
    ∃ t : Tg, v = t.val ∧ d = tgD t ∧ ps = [] ∧ TgW t := by
  obtain ⟨cs, rfl, hsz⟩ := okWide_struct Tryz.underlying42 hv
  rw [cells_tg] at hsz
  obtain ⟨l⟩ := cs
  obtain ⟨c0, c1, c2, c3, c4, c5, rfl⟩ := list_six l (by simpa using hsz)
  obtain ⟨fuel, hf⟩ := hd
  obtain ⟨xs, m, _, hx, _, hlen, hg⟩ := DataW.trod_struct Tryz.underlying42 hf
  obtain ⟨y0, y1, y2, y3, y4, y5, rfl⟩ := list_six xs (by simpa using hlen)
  have g0 := hg 0 _ rfl
  have g1 := hg 1 _ rfl
  have g2 := hg 2 _ rfl
  have g3 := hg 3 _ rfl
  have g4 := hg 4 _ rfl
  have g5 := hg 5 _ rfl
  simp [Value.cells, cells_int, cells_bool, cells_str] at g0 g1 g2 g3 g4 g5
  obtain ⟨z0, e0, rfl, w0⟩ := DataW.trod_int Tryz.underlying3 g0
  obtain ⟨z1, e1, rfl, w1⟩ := DataW.trod_int Tryz.underlying3 g1
  obtain ⟨z2, e2, rfl, w2⟩ := DataW.trod_int Tryz.underlying3 g2
  obtain ⟨z3, e3, rfl, w3⟩ := DataW.trod_string Tryz.underlying9 g3
  obtain ⟨z4, e4, rfl, w4⟩ := DataW.trod_string Tryz.underlying9 g4
  obtain ⟨z5, e5, rfl⟩ := DataW.trod_bool Tryz.underlying4 g5
  simp at e0 e1 e2 e3 e4 e5
  subst e0 e1 e2 e3 e4 e5
  simp only [Prod.mk.injEq] at hx
  obtain ⟨rfl, rfl⟩ := hx
  exact ⟨⟨z0, z1, z2, z3, z4, z5⟩, rfl, rfl, rfl, ⟨w0, w1, w2, w3, w4⟩⟩
theorem shut_tg {t : Tg} (h : TgW t) : DataW.Trod enc Tryz.prog w base spare held 42 t.val (tgD t) [] := ⟨2, by
  simp [DataW.trod, Value.cells, Tg.val, tgD, Tryz.underlying42, Tryz.underlying3, Tryz.underlying4, Tryz.underlying9, cells_tg, cells_int, cells_bool, cells_str, h.k, h.n, h.a, h.s, h.b]⟩
end
end Cn
end Go.Proofs.YtfilbfenpdaahaaGreatDoor
