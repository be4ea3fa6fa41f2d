/-
  Bytes that came in, as the reader reads them; their capacity, too.
-/
import Derived.Test.YtioldiibfhcgpaaDoorFonApp
import Derived.ProofKit
import Derived.OpenShut
import Derived.Deep.Slices
import Derived.ChangeSame
namespace Go.Proofs.YtioldiibfhcgpaaDoor
open Go.ChangeShapes Go.WideShapes Go.ChangeAt Go.RowKit Go.Deep
open Fo
section
variable {H : Type} {enc : TypeId × Value → H} {w : World} {base : Nat} {spare : Nat → Bool} {held : Bool}
theorem open_byts {fuel : Nat} {cs : List Value} {x : DataW H × List MemPlace} (h : DataW.trod enc Tryd.prog w base spare held fuel 32 cs = some x) :
    ∃ (a : Option Addr) (b : List UInt8) (c : Nat), cs = [.slice a b.length c] ∧ Src w a b ∧ (a = none → c = 0) ∧ b.length ≤ c ∧ c ≤ maxLen := by
  rcases open_ints Tryd.underlying32 Tryd.underlying5 (by kernel_rfl) h with ⟨hcs, _⟩ | ⟨ad, l, c, zs, hcs, _, hl, hm, hz, _, hcell, hwz⟩
  · exact ⟨none, [], 0, by simpa using hcs, .inl rfl, fun _ => rfl, by simp, by simp⟩
  · have hlz : l ≤ zs.length := by rw [hz]; split <;> omega
    have hbl : ((zs.take l).map fun z => UInt8.ofNat z.toNat).length = l := by simp; omega
    refine ⟨some ad, (zs.take l).map fun z => UInt8.ofNat z.toNat, c, by rw [hbl]; exact hcs, .inr ⟨ad, rfl, fun j z hj => ?_⟩, fun e => (by cases e), by rw [hbl]; exact hl, hm⟩
    have hj1 : j < l := by have := (List.getElem?_eq_some_iff.1 hj).1; rw [hbl] at this; exact this
    have hj2 : j < zs.length := by omega
    rw [hcell j hj2]
    have e1 : zs.getD j 0 = zs[j] := by simp [hj2]
    have hw := hwz zs[j] (List.getElem_mem _)
    have hr : 0 ≤ zs[j] ∧ zs[j] ≤ 255 := by simpa [Lit.wf, IntKind.min, IntKind.max, IntKind.signed, IntKind.bits] using hw
    have e2 : z = UInt8.ofNat zs[j].toNat := by
      rw [List.getElem?_map, List.getElem?_take, if_pos hj1, List.getElem?_eq_getElem hj2] at hj
      simpa using hj.symm
    rw [e1, e2]
    unfold bv
    have e3 : (UInt8.ofNat zs[j].toNat).toNat = zs[j].toNat := by
      simp; omega
    rw [e3]
    congr 2
    omega
end
end Go.Proofs.YtioldiibfhcgpaaDoor
