/-
  Objects in a row as the reader reads them: what the walk is told.
-/
import Derived.Test.YtgbpldfcahajeaaDoorAriRow
import Derived.ProofKit
import Derived.OpenShut
import Derived.Deep.Slices
import Derived.Deep.Fields
import Derived.ChangeSame
namespace Go.Proofs.YtgbpldfcahajeaaDoor
open Go.ChangeShapes Go.WideShapes Go.ChangeAt Go.RowKit Go.Deep
open Fx
namespace Ari
section
variable {H : Type} {enc : TypeId × Value → H} {w : World} {base : Nat} {spare : Nat → Bool} {held : Bool}
theorem atO (its : List Ob) : ∀ (p f : Nat) (o : Ob), its[p]? = some o → f < 8 → (its.flatMap Ob.cells)[p * 8 + f]? = o.cells[f]? := by
  induction its with
  | nil => intro p f o h; simp at h
  | cons y its ih =>
    intro p f o h hf
    rw [List.flatMap_cons]
    cases p with
    | zero =>
      simp at h; subst h
      rw [List.getElem?_append_left (by simp [Ob.cells]; omega)]; simp
    | succ p =>
      rw [List.getElem?_append_right (by simp [Ob.cells]; omega)]
      have e : (p + 1) * 8 + f - y.cells.length = p * 8 + f := by simp [Ob.cells]; omega
      rw [e]; exact ih p f o (by simpa using h) hf
/-- a list is being copied: k of it are there -/
def Cpy (B n k : Nat) (l : List Ob) (w2 wr : World) : Prop := Below w2.heap.size w2 wr ∧ ∃ xs : List Ob, xs.length = n ∧ (∀ j, j < k → xs[j]? = l[j]?) ∧ wr.ownsRow 0 38 8 (.slice (some ⟨B, 0, none⟩) n n) n (xs.flatMap Ob.cells)
theorem exists_listO {α : Type} {P : Nat → α → Prop} : ∀ (n : Nat), (∀ i, i < n → ∃ x, P i x) → ∃ L : List α, L.length = n ∧ ∀ i x, L[i]? = some x → P i x
  | 0, _ => ⟨[], rfl, fun i x h => by simp at h⟩
  | n + 1, h => by
    obtain ⟨L, hl, hL⟩ := exists_listO n (fun i hi => h i (by omega))
    obtain ⟨x, hx⟩ := h n (by omega)
    refine ⟨L ++ [x], by simp [hl], fun i y hy => ?_⟩
    rcases Nat.lt_or_ge i L.length with hi | hi
    · rw [List.getElem?_append_left hi] at hy
      exact hL i y hy
    · rw [List.getElem?_append_right hi] at hy
      have h1 := (List.getElem?_eq_some_iff.1 hy).1
      have h2 : i - L.length = 0 := by simp at h1; omega
      rw [h2] at hy
      have e : x = y := by simpa using hy
      have e2 : i = n := by omega
      rw [← e, e2]
      exact hx
theorem list8O {α : Type} (l : List α) (h : l.length = 8) : ∃ a b c d e f g i, l = [a, b, c, d, e, f, g, i] := by
  match l, h with
  | [a, b, c, d, e, f, g, i], _ => exact ⟨a, b, c, d, e, f, g, i, rfl⟩
theorem cells_obO : Tryd.prog.cellsOf 38 = 8 := by kernel_rfl
theorem cells_intO : Tryd.prog.cellsOf 3 = 1 := by kernel_rfl
theorem cells_boolO : Tryd.prog.cellsOf 4 = 1 := by kernel_rfl
theorem cells_strO : Tryd.prog.cellsOf 9 = 1 := by kernel_rfl
theorem bytes_obO : Tryd.prog.bytesOf 38 = 72 := by kernel_rfl
set_option maxRecDepth 100000 in
theorem open_obC {n : Nat} {d : DataW H × List MemPlace} {cs : List Value} (hl : cs.length = 8) (hf : DataW.trod enc Tryd.prog w base spare held n 38 cs = some d) : ∃ o : Ob, cs = o.cells := by
  obtain ⟨c0, c1, c2, c3, c4, c5, c6, c7, rfl⟩ := list8O cs hl
  obtain ⟨xs, m, _, hx, _, hlen, hg⟩ := DataW.trod_struct Tryd.underlying38 hf
  obtain ⟨y0, y1, y2, y3, y4, y5, y6, y7, rfl⟩ := list8O xs (by simpa using hlen)
  have g0 := hg 0 _ rfl
  have g1 := hg 1 _ rfl
  have g2 := hg 2 _ rfl
  have g3 := hg 3 _ rfl
  have g4 := hg 4 _ rfl
  have g5 := hg 5 _ rfl
  have g6 := hg 6 _ rfl
  have g7 := hg 7 _ rfl
  simp [cells_intO, cells_boolO, cells_strO] at g0 g1 g2 g3 g4 g5 g6 g7
  obtain ⟨z0, e0, _, _⟩ := DataW.trod_int Tryd.underlying3 g0
  obtain ⟨z1, e1, _⟩ := DataW.trod_bool Tryd.underlying4 g1
  obtain ⟨z2, e2, _, _⟩ := DataW.trod_int Tryd.underlying3 g2
  obtain ⟨z3, e3, _, _⟩ := DataW.trod_int Tryd.underlying3 g3
  obtain ⟨z4, e4, _, _⟩ := DataW.trod_string Tryd.underlying9 g4
  obtain ⟨z5, e5, _, _⟩ := DataW.trod_int Tryd.underlying3 g5
  obtain ⟨z6, e6, _, _⟩ := DataW.trod_int Tryd.underlying3 g6
  obtain ⟨z7, e7, _, _⟩ := DataW.trod_int Tryd.underlying3 g7
  simp at e0 e1 e2 e3 e4 e5 e6 e7
  subst e0 e1 e2 e3 e4 e5 e6 e7
  exact ⟨⟨z0, z1, z2, z3, z4, z5, z6, z7⟩, rfl⟩
/-- objects that came in -/
theorem open_obs {fuel : Nat} {cs : List Value} {x : DataW H × List MemPlace} (h : DataW.trod enc Tryd.prog w base spare held fuel 22 cs = some x) :
    ∃ (a : Option Addr) (l : List Ob) (c : Nat), cs = [.slice a l.length c] ∧ SrcO w a l ∧ (a = none → c = 0) ∧ l.length ≤ c ∧ c ≤ maxLen ∧ (l = [] ∨ ∃ es sp, x.1 = .slice es sp ∧ es.length = l.length) := by
  rcases open_slice Tryd.underlying22 h with ⟨hcs, _⟩ | ⟨ad, len, cap, m, n, D, Pl, hcs, hb, hl, hm, hmm, hx, hi⟩
  · exact ⟨none, [], 0, hcs, .inl rfl, fun _ => rfl, Nat.le_refl _, by unfold maxLen; omega, .inl rfl⟩
  · rw [cells_obO] at hi
    have hlm : len ≤ m := by rw [hmm]; split <;> omega
    obtain ⟨L, hL, hP⟩ := exists_listO (P := fun i (o : Ob) => ∀ f, f < 8 → w.cell? (ad.add (i * 8 + f)) = o.cells[f]?) len (fun i hlt => by
      obtain ⟨cs', hc, ht⟩ := hi i (by omega)
      obtain ⟨_, hcl, hat⟩ := World.cells?_some hc
      obtain ⟨o, rfl⟩ := open_obC hcl ht
      refine ⟨o, fun f hf => ?_⟩
      have := hat f hf
      have e : (ad.add (i * 8)).add f = ad.add (i * 8 + f) := by
        unfold Addr.add
        by_cases h1 : i * 8 = 0 <;> by_cases h2 : f = 0 <;> simp_all <;> omega
      rw [e] at this
      exact this)
    refine ⟨some ad, L, cap, by rw [hL]; exact hcs, .inr ⟨ad, rfl, fun j z hz => ?_⟩, fun e => (by cases e), by rw [hL]; exact hl, hm, .inr ⟨_, _, by rw [hx], by simp [hL]⟩⟩
    have hj := (List.getElem?_eq_some_iff.1 hz).1
    rw [lenO] at hj
    have e1 : j / 8 < L.length := by omega
    have e2 : j / 8 * 8 + j % 8 = j := by omega
    have hf : j % 8 < 8 := by omega
    have h3 := hP (j / 8) _ (List.getElem?_eq_getElem e1) (j % 8) hf
    have h4 := atO L (j / 8) (j % 8) _ (List.getElem?_eq_getElem e1) hf
    rw [e2] at h3 h4
    rw [h3, ← h4, hz]
end
end Ari
end Go.Proofs.YtgbpldfcahajeaaDoor
