/-
  Calls in a row, and bytes, as the reader reads them: what the walk is told.
-/
import Derived.Test.YtlflkdmbbomjeaaStoRunM
import Derived.ProofKit
import Derived.OpenShut
import Derived.Deep.Slices
import Derived.Deep.Fields
import Derived.ChangeSame
namespace Go.Proofs.Ytlflkdmbbomjeaa
open Go.ChangeShapes Go.WideShapes Go.ChangeAt Go.RowKit Go.Deep
open St
section
variable {H : Type} {enc : TypeId × Value → H} {w : World} {base : Nat} {spare : Nat → Bool} {held : Bool}
theorem exists_list {α : Type} {P : Nat → α → Prop} : ∀ (n : Nat), (∀ i, i < n → ∃ x, P i x) → ∃ L : List α, L.length = n ∧ ∀ i x, L[i]? = some x → P i x
  | 0, _ => ⟨[], rfl, fun i x h => by simp at h⟩
  | n + 1, h => by
    obtain ⟨L, hl, hL⟩ := exists_list n (fun i hi => h i (by omega))
    obtain ⟨x, hx⟩ := h n (by omega)
    refine ⟨L ++ [x], by simp [hl], fun i y hy => ?_⟩
    rcases Nat.lt_or_ge i L.length with hi | hi
    · rw [List.getElem?_append_left hi] at hy
      exact hL i y hy
    · rw [List.getElem?_append_right hi] at hy
      have h1 := (List.getElem?_eq_some_iff.1 hy).1
      have h2 : i - L.length = 0 := by simp at h1; omega
      rw [h2] at hy
      have e : x = y := by simpa using hy
      have e2 : i = n := by omega
      rw [← e, e2]
      exact hx
/-- bytes that came in -/
theorem open_bytes {fuel : Nat} {cs : List Value} {x : DataW H × List MemPlace} (h : DataW.trod enc Try.prog w base spare held fuel 36 cs = some x) :
    ∃ (a : Option Addr) (b : List UInt8) (c : Nat), cs = [.slice a b.length c] ∧ Src w a b ∧ (a = none → c = 0) ∧ b.length ≤ maxLen := by
  rcases open_ints Try.underlying36 Try.underlying5 (by kernel_rfl) h with ⟨hcs, _⟩ | ⟨ad, l, c, zs, hcs, _, hl, hm, hz, _, hcell, hwz⟩
  · exact ⟨none, [], 0, by simpa using hcs, .inl rfl, fun _ => rfl, by simp⟩
  · have hlz : l ≤ zs.length := by rw [hz]; split <;> omega
    have hbl : ((zs.take l).map fun z => UInt8.ofNat z.toNat).length = l := by simp; omega
    refine ⟨some ad, (zs.take l).map fun z => UInt8.ofNat z.toNat, c, by rw [hbl]; exact hcs, .inr ⟨ad, rfl, fun j z hj => ?_⟩, fun e => (by cases e), by rw [hbl]; omega⟩
    have hj1 : j < l := by have := (List.getElem?_eq_some_iff.1 hj).1; rw [hbl] at this; exact this
    have hj2 : j < zs.length := by omega
    rw [hcell j hj2]
    have e1 : zs.getD j 0 = zs[j] := by simp [hj2]
    have hw := hwz zs[j] (List.getElem_mem _)
    have hr : 0 ≤ zs[j] ∧ zs[j] ≤ 255 := by simpa [Lit.wf, IntKind.min, IntKind.max, IntKind.signed, IntKind.bits] using hw
    have e2 : z = UInt8.ofNat zs[j].toNat := by
      rw [List.getElem?_map, List.getElem?_take, if_pos hj1, List.getElem?_eq_getElem hj2] at hj
      simpa using hj.symm
    rw [e1, e2]
    unfold bv
    have e3 : (UInt8.ofNat zs[j].toNat).toNat = zs[j].toNat := by
      simp; omega
    rw [e3]
    congr 2
    omega
theorem list7 {α : Type} (l : List α) (h : l.length = 7) : ∃ a b c d e f g, l = [a, b, c, d, e, f, g] := by
  match l, h with
  | [a, b, c, d, e, f, g], _ => exact ⟨a, b, c, d, e, f, g, rfl⟩
theorem cells_act : Try.prog.cellsOf 38 = 7 := by kernel_rfl
theorem cells_i : Try.prog.cellsOf 3 = 1 := by kernel_rfl
theorem cells_bs : Try.prog.cellsOf 36 = 1 := by kernel_rfl
theorem int_rng {z : Int} (h : (Lit.int .i64 z).wf = true) : -9223372036854775808 ≤ z ∧ z ≤ 9223372036854775807 := by simpa [Lit.wf, IntKind.min, IntKind.max, IntKind.signed, IntKind.bits] using h
set_option maxRecDepth 100000 in
theorem open_act {n i : Nat} {a : Addr} {d : DataW H × List MemPlace} {cs : List Value} (hc : w.cells? base (a.add (i * 7)) 7 = some cs) (h : DataW.trod enc Try.prog w base spare held n 38 cs = some d) :
    ∃ x : Ac, (∀ f, f < 7 → w.cell? (a.add (i * 7 + f)) = x.cells[f]?) ∧ Src w x.ba x.b ∧ (-9223372036854775808 ≤ x.a ∧ x.a ≤ 9223372036854775807) ∧ (-9223372036854775808 ≤ x.c ∧ x.c ≤ 9223372036854775807) ∧ (-9223372036854775808 ≤ x.k ∧ x.k ≤ 9223372036854775807) ∧ (x.ba = none → x.bc = 0) := by
  obtain ⟨_, hcl, hat⟩ := World.cells?_some hc
  obtain ⟨c0, c1, c2, c3, c4, c5, c6, rfl⟩ := list7 cs hcl
  obtain ⟨xs, m, _, hx, _, hlen, hg⟩ := DataW.trod_struct Try.underlying38 h
  obtain ⟨y0, y1, y2, y3, y4, y5, y6, rfl⟩ := list7 xs (by simpa using hlen)
  have g0 := hg 0 _ rfl
  have g1 := hg 1 _ rfl
  have g2 := hg 2 _ rfl
  have g3 := hg 3 _ rfl
  have g4 := hg 4 _ rfl
  have g5 := hg 5 _ rfl
  have g6 := hg 6 _ rfl
  simp [cells_i, cells_bs] at g0 g1 g2 g3 g4 g5 g6
  obtain ⟨z0, e0, _, w0⟩ := DataW.trod_int Try.underlying3 g0
  obtain ⟨z1, e1, _, w1⟩ := DataW.trod_int Try.underlying3 g1
  obtain ⟨z2, e2, _, w2⟩ := DataW.trod_int Try.underlying3 g2
  obtain ⟨z3, e3, _, w3⟩ := DataW.trod_int Try.underlying3 g3
  obtain ⟨z4, e4, _, w4⟩ := DataW.trod_int Try.underlying3 g4
  obtain ⟨z5, e5, _, w5⟩ := DataW.trod_int Try.underlying3 g5
  obtain ⟨ba, b, bc, e6, hs, hn, _⟩ := open_bytes g6
  simp at e0 e1 e2 e3 e4 e5 e6
  subst e0 e1 e2 e3 e4 e5 e6
  refine ⟨⟨z0, z1, z2, z3, z4, z5, b, ba, bc⟩, fun f hf => ?_, hs, int_rng w1, int_rng w2, int_rng w3, hn⟩
  have := hat f hf
  have e : (a.add (i * 7)).add f = a.add (i * 7 + f) := by
    unfold Addr.add
    by_cases h1 : i * 7 = 0 <;> by_cases h2 : f = 0 <;> simp_all <;> omega
  rw [e] at this
  rw [this]
  rfl
theorem open_acts {fuel : Nat} {cs : List Value} {x : DataW H × List MemPlace} (h : DataW.trod enc Try.prog w base spare held fuel 22 cs = some x) :
    ∃ (v : Value) (L : List Ac), cs = [v] ∧ ActsR w v L := by
  rcases open_slice Try.underlying22 h with ⟨hcs, _⟩ | ⟨a, len, cap, m, n, D, Pl, hcs, hb, hl, hm, hmm, hx, hi⟩
  · exact ⟨_, [], hcs, .inl ⟨rfl, rfl⟩, fun x hx => (by cases hx), fun x hx => (by cases hx), fun x hx => (by cases hx), fun x hx => (by cases hx), by simp, fun x hx => (by cases hx)⟩
  · rw [cells_act] at hi
    have hlm : len ≤ m := by rw [hmm]; split <;> omega
    obtain ⟨L, hL, hP⟩ := exists_list (P := fun i (x : Ac) => (∀ f, f < 7 → w.cell? (a.add (i * 7 + f)) = x.cells[f]?) ∧ Src w x.ba x.b ∧ (-9223372036854775808 ≤ x.a ∧ x.a ≤ 9223372036854775807) ∧ (-9223372036854775808 ≤ x.c ∧ x.c ≤ 9223372036854775807) ∧ (-9223372036854775808 ≤ x.k ∧ x.k ≤ 9223372036854775807) ∧ (x.ba = none → x.bc = 0)) len (fun i hlt => by
      obtain ⟨cs', hc, ht⟩ := hi i (by omega)
      exact open_act hc ht)
    have hmem : ∀ x ∈ L, ∃ i, L[i]? = some x := fun x hx => by
      obtain ⟨i, hi2, e⟩ := List.getElem_of_mem hx
      exact ⟨i, List.getElem?_eq_some_iff.2 ⟨hi2, e⟩⟩
    unfold maxLen at hm
    refine ⟨_, L, hcs, .inr ⟨a, cap, by rw [hL], fun i x hx => (hP i x hx).1⟩, fun x hx => ?_, fun x hx => ?_, fun x hx => ?_, fun x hx => ?_, by omega, fun x hx => ?_⟩
    all_goals obtain ⟨i, hi2⟩ := hmem x hx
    · exact (hP i x hi2).2.1
    · exact (hP i x hi2).2.2.1
    · exact (hP i x hi2).2.2.2.1
    · exact (hP i x hi2).2.2.2.2.1
    · exact (hP i x hi2).2.2.2.2.2
end
end Go.Proofs.Ytlflkdmbbomjeaa
