/-
  The document's Names and Font; the walk of FontNames.
-/
import Derived.Test.YtioldiibfhcgpaaDoorFonNames
namespace Go.Proofs.YtioldiibfhcgpaaDoor
open Go.RowKit
namespace Fo
/-- a row of the fourteen names at block B -/
def Nms (w : World) (B : Nat) : Prop := w.heap[B]? = some (.cells nmC 9 (0, 0))
set_option maxRecDepth 100000 in
theorem names_at (w : World) : Calls Tryd.prog 10 #[] w fun e w' => e = .returned (.slice (some ⟨w.heap.size, 0, none⟩) 14 14) ∧ Nms w' w.heap.size ∧ Below w.heap.size w w' := by
  go_enter Tryd.func10, Tryd.ntmps10
  go_wp2_with fail
  go_ret
  exact ⟨rfl, heap_alloc_new w _, below1 w _⟩
theorem Nms.at {w : World} {B : Nat} (h : Nms w B) (k : Nat) (hk : k < 14) : w.cell? ⟨B, k, none⟩ = some (.string (nmS k)) := by rw [blk_cell h, nmC_at k hk]
theorem Nms.below {w w' : World} {B : Nat} (h : Nms w B) (hb : Below w.heap.size w w') : Nms w' B := by
  have hg : B < w.heap.size := block_lt_of_cell (h.at 0 (by omega))
  unfold Nms
  rw [hb.block _ hg]; exact h
def FoR (s : ByteArray) (w : World) (i : Value) (w' : World) : Prop := ∃ n k : Nat, n + k = 14 ∧ i = .int .i64 k ∧ fnd s n k = fndA s ∧ w = w'
/-- a number; -1 if there is none -/
def fndZ : Option Nat → Int
  | some k => k
  | none => -1
set_option maxRecDepth 100000 in
theorem font_at (s : ByteArray) (w : World) : Calls Tryd.prog 12 #[.string s] w fun e w' => e = .returned (.int .i64 (fndZ (fndA s))) ∧ Below w.heap.size w w' := by
  go_enter Tryd.func12, Tryd.ntmps12
  go_wp2_with fail
  refine (names_at _).mono ?_; rintro e w1 ⟨rfl, hn, hb1⟩
  have HN := Lib.hid hn
  have HB := Lib.hid hb1
  generalize w.heap.size = B at HN ⊢
  clear hn hb1
  go_wp2_with fail
  go_loopw [4] (FoR s w1) (fun i _ => 14 - (intOf i).toNat)
  case atStart => exact ⟨14, 0, rfl, rfl, rfl, rfl⟩
  case round =>
    obtain ⟨n, k, hnk, rfl, hf, rfl⟩ := hrel
    cases n with
    | zero =>
      obtain rfl : k = 14 := by omega
      have hv : fndA s = none := hf.symm
      have HV := Lib.hid hv
      clear hf hv
      go_wp2_with fail
      go_ret
      exact ⟨by rw [HV.out]; rfl, HB.out⟩
    | succ n =>
      have hk : k < 14 := by omega
      have hk' : (k : Int) < 14 := by omega
      have hk0 : (0 : Int) ≤ k := by omega
      have hcell := HN.out.at k hk
      have HF := Lib.hid hf
      generalize hS : nmS k = S at *
      have HS := Lib.hid hS
      clear hf hS
      cases hb : (S.toList == s.toList) with
      | true =>
        go_wp2_with fail
        go_ret
        exact ⟨by rw [← HF.out, fnd_yes (by rw [HS.out]; exact hb)]; rfl, HB.out⟩
      | false =>
        have HBe := Lib.hid hb
        go_wp2_with fail
        go_roundw
        case rel => exact ⟨n, k + 1, by omega, by congr 1, by rw [← HF.out, fnd_no (by rw [HS.out]; exact HBe.out)], rfl⟩
        case measure => simp [intOf]; omega
end Fo
end Go.Proofs.YtioldiibfhcgpaaDoor
