/-
  Making things, by contracts: claim (cells are taken), hold (a thing is taken up).
-/
import Derived.Test.YtfilbfenpdaahaaGreatDoorStoTold3
import Derived.StillTailTactics
import Derived.Deep.RegionHeld3
import Derived.Deep.RegionLaw
import Derived.Deep.DeepCutAuto
namespace Go.Proofs.YtfilbfenpdaahaaGreatDoor
open Go.RowKit
open St
def mostI (k : Int) : Int := if k = 6 then 65535 else if k = 7 then 65535 else 4096
def cellsI (k n : Int) : Int := if k = 6 then 1 + (n + 7) / 8 else if k = 7 then 1 + n else 1 + 2 * n
/-- why there can't be one of length n -/
def clm (k n fr : Int) : Int := if n < 0 then 11 else if mostI k < n then 9 else if fr < cellsI k n then 20 else 0
theorem mostOf_at (k : Int) (w : World) : Calls Tryz.prog 31 #[.int .i64 k] w fun e w' => e = .returned (.int .i64 (mostI k)) ∧ w' = w := by
  unfold mostI
  by_cases k6 : k = 6
  · subst k6
    go_enter Tryz.func31, Tryz.ntmps31
    go_wp2
    go_ret
    exact ⟨rfl, rfl⟩
  · by_cases k7 : k = 7
    · subst k7
      go_enter Tryz.func31, Tryz.ntmps31
      go_wp2
      go_ret
      exact ⟨rfl, rfl⟩
    · have e6 : (k == 6) = false := by simp [k6]
      have e7 : (k == 7) = false := by simp [k7]
      rw [if_neg k6, if_neg k7]
      clear k6 k7
      go_enter Tryz.func31, Tryz.ntmps31
      go_wp2
      go_ret
      exact ⟨rfl, rfl⟩
theorem cellsOf_at (k : Int) (n : Nat) (hn : n ≤ 65535) (w : World) : Calls Tryz.prog 32 #[.int .i64 k, .int .i64 n] w fun e w' => e = .returned (.int .i64 (cellsI k n)) ∧ w' = w := by
  unfold cellsI
  by_cases k6 : k = 6
  · subst k6
    go_enter Tryz.func32, Tryz.ntmps32
    go_wp2
    go_ret
    exact ⟨by simp, rfl⟩
  · by_cases k7 : k = 7
    · subst k7
      go_enter Tryz.func32, Tryz.ntmps32
      go_wp2
      go_ret
      exact ⟨by simp, rfl⟩
    · have e6 : (k == 6) = false := by simp [k6]
      have e7 : (k == 7) = false := by simp [k7]
      rw [if_neg k6, if_neg k7]
      clear k6 k7
      go_enter Tryz.func32, Tryz.ntmps32
      go_wp2
      go_ret
      exact ⟨by simp, rfl⟩
theorem cellsI_bounds {k : Int} {n : Nat} (hn : n ≤ 65535) : 1 ≤ cellsI k n ∧ cellsI k n ≤ 200000 := by unfold cellsI; split <;> (try split) <;> omega
theorem mostI_le (k : Int) : 4096 ≤ mostI k ∧ mostI k ≤ 65535 := by unfold mostI; split <;> (try split) <;> omega
theorem claim_at {w : World} {s : Nat} {k n fr : Int} (h2 : w.cell? ⟨s, 2, none⟩ = some (.int .i64 fr)) (hf : w.frozen? ⟨s, 2, none⟩ = false) (h0 : 0 ≤ fr) (h1 : fr ≤ 1048576) :
    Calls Tryz.prog 15 #[.pointer (some ⟨s, 0, none⟩), .int .i64 k, .int .i64 n] w fun e w' => e = .returned (.int .i64 (clm k n fr)) ∧ w' = if clm k n fr = 0 then w.setCell ⟨s, 2, none⟩ (.int .i64 (fr - cellsI k n)) else w := by
  have HM := Lib.hid (mostOf_at k)
  have hml := mostI_le k
  unfold clm
  generalize mostI k = mo at *
  by_cases hn : n < 0
  · rw [if_pos hn]
    go_enter Tryz.func15, Tryz.ntmps15
    go_wp2_with fail
    go_ret
    exact ⟨rfl, rfl⟩
  · rw [if_neg hn]
    by_cases hm : mo < n
    · rw [if_pos hm]
      go_enter Tryz.func15, Tryz.ntmps15
      go_wp2_with fail
      refine (HM.out _).mono ?_; rintro e w2 ⟨rfl, rfl⟩
      go_wp2_with fail
      go_ret
      exact ⟨rfl, rfl⟩
    · rw [if_neg hm]
      obtain ⟨m, rfl⟩ : ∃ m : Nat, n = m := ⟨n.toNat, by omega⟩
      have HC := Lib.hid (fun w => cellsOf_at k m (by omega) w)
      have hcb := cellsI_bounds (k := k) (n := m) (by omega)
      generalize cellsI k m = c at *
      by_cases hc : fr < c
      · rw [if_pos hc]
        go_enter Tryz.func15, Tryz.ntmps15
        go_wp2_with fail
        refine (HM.out _).mono ?_; rintro e w2 ⟨rfl, rfl⟩
        go_wp2_with fail
        refine (HC.out _).mono ?_; rintro e w2 ⟨rfl, rfl⟩
        go_wp2_with fail
        go_ret
        exact ⟨rfl, rfl⟩
      · rw [if_neg hc]
        go_enter Tryz.func15, Tryz.ntmps15
        go_wp2_with fail
        refine (HM.out _).mono ?_; rintro e w2 ⟨rfl, rfl⟩
        go_wp2_with fail
        refine (HC.out _).mono ?_; rintro e w2 ⟨rfl, rfl⟩
        go_wp2_with fail
        go_ret
        exact ⟨rfl, rfl⟩
end Go.Proofs.YtfilbfenpdaahaaGreatDoor
