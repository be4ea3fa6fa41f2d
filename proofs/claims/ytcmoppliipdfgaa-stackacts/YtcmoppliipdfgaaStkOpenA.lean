/-
  Calls in a row as the reader reads them: what the walk is told.
-/
import Derived.Test.YtcmoppliipdfgaaStkOpen
import Derived.Test.YtcmoppliipdfgaaStkActM
import Derived.ProofKit
import Derived.OpenShut
import Derived.Deep.Slices
import Derived.Deep.Fields
import Derived.ChangeSame
namespace Go.Proofs.Ytcmoppliipdfgaa
open Go.ChangeShapes Go.WideShapes Go.ChangeAt Go.RowKit Go.Deep
open St Stk
section
variable {H : Type} {enc : TypeId × Value → H} {w : World} {base : Nat} {spare : Nat → Bool} {held : Bool}
/-- whole numbers that came in -/
theorem open_kinds {fuel : Nat} {cs : List Value} {x : DataW H × List MemPlace} (h : DataW.trod enc Try.prog w base spare held fuel 103 cs = some x) :
    ∃ (a : Option Addr) (ks : List Int) (c : Nat), cs = [.slice a ks.length c] ∧ SrcI w a ks ∧ ks.length ≤ maxLen := by
  rcases open_ints Try.underlying103 Try.underlying3 (by kernel_rfl) h with ⟨hcs, _⟩ | ⟨ad, l, c, zs, hcs, _, hl, hm, hz, _, hcell, hwz⟩
  · exact ⟨none, [], 0, by simpa using hcs, .inl rfl, by simp⟩
  · have hlz : l ≤ zs.length := by rw [hz]; split <;> omega
    have hbl : (zs.take l).length = l := by simp; omega
    refine ⟨some ad, zs.take l, c, by rw [hbl]; exact hcs, .inr ⟨ad, rfl, fun j z hj => ?_⟩, by rw [hbl]; omega⟩
    have hj1 : j < l := by have := (List.getElem?_eq_some_iff.1 hj).1; rw [hbl] at this; exact this
    have hj2 : j < zs.length := by omega
    rw [hcell j hj2]
    have e1 : zs.getD j 0 = zs[j] := by simp [hj2]
    have e2 : z = zs[j] := by
      rw [List.getElem?_take, if_pos hj1, List.getElem?_eq_getElem hj2] at hj
      simpa using hj.symm
    rw [e1, e2]
theorem list5 {α : Type} (l : List α) (h : l.length = 5) : ∃ a b c d e, l = [a, b, c, d, e] := by
  match l, h with
  | [a, b, c, d, e], _ => exact ⟨a, b, c, d, e, rfl⟩
theorem cells_act07 : Try.prog.cellsOf 105 = 5 := by kernel_rfl
theorem cells_i07 : Try.prog.cellsOf 3 = 1 := by kernel_rfl
theorem cells_os07 : Try.prog.cellsOf 34 = 1 := by kernel_rfl
theorem cells_is07 : Try.prog.cellsOf 103 = 1 := by kernel_rfl
theorem int_rng07 {z : Int} (h : (Lit.int .i64 z).wf = true) : -9223372036854775808 ≤ z ∧ z ≤ 9223372036854775807 := by simpa [Lit.wf, IntKind.min, IntKind.max, IntKind.signed, IntKind.bits] using h
set_option maxRecDepth 100000 in
theorem open_kact {n i : Nat} {a : Addr} {d : DataW H × List MemPlace} {cs : List Value} (hc : w.cells? base (a.add (i * 5)) 5 = some cs) (h : DataW.trod enc Try.prog w base spare held n 105 cs = some d) :
    ∃ x : Kc, (∀ f, f < 5 → w.cell? (a.add (i * 5 + f)) = x.cells[f]?) ∧ KcW w x := by
  obtain ⟨_, hcl, hat⟩ := World.cells?_some hc
  obtain ⟨c0, c1, c2, c3, c4, rfl⟩ := list5 cs hcl
  obtain ⟨xs, m, _, hx, _, hlen, hg⟩ := DataW.trod_struct Try.underlying105 h
  obtain ⟨y0, y1, y2, y3, y4, rfl⟩ := list5 xs (by simpa using hlen)
  have g0 := hg 0 _ rfl
  have g1 := hg 1 _ rfl
  have g2 := hg 2 _ rfl
  have g3 := hg 3 _ rfl
  have g4 := hg 4 _ rfl
  simp [cells_i07, cells_os07, cells_is07] at g0 g1 g2 g3 g4
  obtain ⟨z0, e0, _, w0⟩ := DataW.trod_int Try.underlying3 g0
  obtain ⟨z1, e1, _, w1⟩ := DataW.trod_int Try.underlying3 g1
  obtain ⟨z2, e2, _, w2⟩ := DataW.trod_int Try.underlying3 g2
  obtain ⟨la, l, lc, e3, hs, hn, hcap, hcm, _⟩ := open_obs g3
  obtain ⟨ka, ks, kc, e4, hk, hkm⟩ := open_kinds g4
  simp at e0 e1 e2 e3 e4
  subst e0 e1 e2 e3 e4
  refine ⟨⟨z0, z1, z2, la, l, lc, ka, ks, kc⟩, fun f hf => ?_, hs, hn, hcap, hcm, hk, hkm, int_rng07 w1, int_rng07 w2⟩
  have := hat f hf
  have e : (a.add (i * 5)).add f = a.add (i * 5 + f) := by
    unfold Addr.add
    by_cases h1 : i * 5 = 0 <;> by_cases h2 : f = 0 <;> simp_all <;> omega
  rw [e] at this
  rw [this]
  rfl
theorem open_kacts {fuel : Nat} {cs : List Value} {x : DataW H × List MemPlace} (h : DataW.trod enc Try.prog w base spare held fuel 100 cs = some x) :
    ∃ (v : Value) (L : List Kc), cs = [v] ∧ KActs w v L := by
  rcases open_slice Try.underlying100 h with ⟨hcs, _⟩ | ⟨a, len, cap, m, n, D, Pl, hcs, hb, hl, hm, hmm, hx, hi⟩
  · exact ⟨_, [], hcs, .inl ⟨rfl, rfl⟩, fun x hx => (by cases hx), by simp⟩
  · rw [cells_act07] at hi
    have hlm : len ≤ m := by rw [hmm]; split <;> omega
    obtain ⟨L, hL, hP⟩ := exists_listO (P := fun i (x : Kc) => (∀ f, f < 5 → w.cell? (a.add (i * 5 + f)) = x.cells[f]?) ∧ KcW w x) len (fun i hlt => by
      obtain ⟨cs', hc, ht⟩ := hi i (by omega)
      exact open_kact hc ht)
    unfold maxLen at hm
    refine ⟨_, L, hcs, .inr ⟨a, cap, by rw [hL], fun i x hx => (hP i x hx).1⟩, fun x hx => ?_, by omega⟩
    obtain ⟨i, hi2, e⟩ := List.getElem_of_mem hx
    exact (hP i x (List.getElem?_eq_some_iff.2 ⟨hi2, e⟩)).2
theorem acts_rng {z : Int} (h : (Lit.int .i64 z).wf = true) : -9223372036854775808 ≤ z ∧ z ≤ 9223372036854775807 := int_rng07 h
end
end Go.Proofs.Ytcmoppliipdfgaa
