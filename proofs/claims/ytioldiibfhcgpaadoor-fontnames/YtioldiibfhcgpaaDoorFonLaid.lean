/-
  The table of names, out of what the row lays.
-/
import Derived.Test.YtioldiibfhcgpaaDoorFonBase
import Derived.Lib.LaidTab
namespace Go.Proofs.YtioldiibfhcgpaaDoor
open Go.RowKit
namespace Fo
theorem cells_of_strs {H : Type} {enc : TypeId × Value → H} {P : Program} {w : World} {base : Nat} {sp : Nat → Bool} {held : Bool} {fuel : Nat} {t e : TypeId} {n : Nat} {cs : List Value} {ss : List (List UInt8)} {p : List MemPlace}
    (ht : P.underlying t = some (.array n e)) (he : P.underlying e = some .string) (hce : P.cellsOf e = 1) (hct : P.cellsOf t = n)
    (h : DataW.trod enc P w base sp held fuel t cs = some (.agg (ss.map fun s => DataW.lit (Lit.string s)), p)) : ∀ (i : Nat) (s : List UInt8), ss[i]? = some s → ∃ b : ByteArray, cs[i]? = some (.string b) ∧ b.data.toList = s := by
  cases fuel with
  | zero => simp [DataW.trod] at h
  | succ fuel =>
    simp only [DataW.trod, ht, hce, hct, Nat.mul_one] at h
    split at h
    · rename_i hl
      obtain ⟨xs, hm, hx⟩ := Option.map_eq_some_iff.1 h
      have hxs : xs.map (·.1) = ss.map fun s => (DataW.lit (.string s) : DataW H) := by
        have := congrArg Prod.fst hx
        simpa using this
      have hxl : xs.length = n := by simpa using Lib.mapM_length hm
      have hsl : ss.length = n := by
        have := congrArg List.length hxs
        simp at this
        omega
      intro i s hs
      have hi : i < n := by have := (List.getElem?_eq_some_iff.1 hs).1; omega
      obtain ⟨b, hb, hf⟩ := Lib.mapM_at hm i i (by simp [hi])
      obtain ⟨z, hc, rfl, _⟩ := DataW.trod_string he hf
      have h1 : cs[i]? = some (.string z) := by
        have := congrArg (·[0]?) hc
        simpa [List.getElem?_take, List.getElem?_drop] using this
      have h2 : (xs.map (·.1))[i]? = some (DataW.lit (.string z.data.toList) : DataW H) := by simp [hb]
      rw [hxs] at h2
      simp only [List.getElem?_map, hs, Option.map_some, Option.some.injEq, DataW.lit.injEq, Lit.string.injEq] at h2
      exact ⟨z, h1, h2.symm⟩
    · cases h
theorem nm_type : (Tryd.prog.globals[0]?).map (·.type) = some 41 := by kernel_rfl
theorem nm_cells : Tryd.prog.cellsOf 41 = 14 := by kernel_rfl
theorem nm_cell : Tryd.prog.cellsOf 9 = 1 := by kernel_rfl
def nmAll : List (List UInt8) := (List.range 14).map nmL
theorem nm_datum : (Rows.laid_mezzotint_font_names : DataW Unit) = .agg (nmAll.map fun s => DataW.lit (Lit.string s)) := by kernel_rfl
theorem nm_laid {W : World} (h0 : laidMetH Tryd.prog [("mezzotint/font.names", Rows.laid_mezzotint_font_names)] W) : NmT W := by
  have h : laidMet Tryd.prog [("mezzotint/font.names", Rows.laid_mezzotint_font_names)] W := h0
  rw [nm_datum] at h
  obtain ⟨ps, ⟨g', t', cs, fuel, p, q, hg', ht', hvar, hd, _, _⟩, _⟩ := h
  obtain rfl := Option.some.inj (nm_glob.symm.trans hg')
  obtain rfl := Option.some.inj (nm_type.symm.trans ht')
  intro k hk
  obtain ⟨b, hb, hs⟩ := cells_of_strs Tryd.underlying41 Tryd.underlying9 nm_cell nm_cells hd k (nmL k) (by simp [nmAll, hk])
  have hbk : b = nmS k := by
    rw [nmS, ← hs]
  have := World.var?_cell nm_glob hvar k
  rw [this]
  simpa [hbk] using hb
end Fo
end Go.Proofs.YtioldiibfhcgpaaDoor
