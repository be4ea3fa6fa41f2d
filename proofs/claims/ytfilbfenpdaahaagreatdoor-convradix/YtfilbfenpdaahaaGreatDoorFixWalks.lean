/-
  The contracts of the functions of package fix and of the document's own (ref01), one by one.
-/
import Derived.Test.YtfilbfenpdaahaaGreatDoorRows
import Derived.Test.YtfilbfenpdaahaaGreatDoorFixMath
import Derived.WalkKit
import Derived.WalkSpells
import Derived.BigQuiet
import Derived.Deep.QuietTactic
import Derived.Lib.Hide
import Derived.Test.YtfilbfenpdaahaaGreatDoorFixBits
namespace Go.Proofs.YtfilbfenpdaahaaGreatDoor
open Go.RowKit
open Fx
theorem ret_int {k : IntKind} {a b : Int} (h : a = b) : Ending.returned (.int k a) = .returned (.int k b) := by rw [h]

theorem fixFits_any (n : Int) (w : World) :
    Calls Tryz.prog 69 #[.int .i64 n] w fun e w' => e = .returned (.bool (fits n)) ∧ w = w' := by
  unfold fits
  by_cases h1 : -2147483648 ≤ n
  · go_enter Tryz.func69, Tryz.ntmps69
    go_wp2
    go_ret
    exact ⟨by simp [h1], rfl⟩
  · go_enter Tryz.func69, Tryz.ntmps69
    go_wp2
    go_ret
    exact ⟨by simp; omega, rfl⟩
theorem fixFits_yes (n : Int) (w : World) (h : fits n = true) :
    Calls Tryz.prog 69 #[.int .i64 n] w fun e w' => e = .returned (.bool true) ∧ w = w' := by
  have := fixFits_any n w; rwa [h] at this
theorem fixFits_no (n : Int) (w : World) (h : fits n = false) :
    Calls Tryz.prog 69 #[.int .i64 n] w fun e w' => e = .returned (.bool false) ∧ w = w' := by
  have := fixFits_any n w; rwa [h] at this
end Go.Proofs.YtfilbfenpdaahaaGreatDoor
