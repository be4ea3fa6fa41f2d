/-
  Known and count: how many operands a name has (made by genknown.py).
-/
import Derived.Test.YtgbpldfcahajeaaDoorAriUnw
import Derived.Test.YtgbpldfcahajeaaDoorAriTwoN
import Derived.Test.YtgbpldfcahajeaaDoorAriLaw
namespace Go.Proofs.YtgbpldfcahajeaaDoor
open Go.RowKit
open Fx
namespace Ari
/-- how many operands an operator has: 0 where there is none -/
def cntL (l : List UInt8) : Int := if names1.contains l = true then 1 else if names2.contains l = true then 2 else 0
def OpsN (nm : ByteArray) (c : Int) : Prop := (∀ W, Calls Tryd.prog 7 #[.string nm] W fun e w' => e = .returned (.tuple #[.int .i64 c, .bool (decide (0 < c))]) ∧ W = w') ∧ (∀ W, Calls Tryd.prog 9 #[.string nm] W fun e w' => e = .returned (.int .i64 c) ∧ W = w')
set_option maxRecDepth 100000 in
theorem kn_neg : OpsN ⟨#[110, 101, 103]⟩ 1 := by
  constructor
  · intro W
    go_enter Tryd.func7, Tryd.ntmps7
    go_wp2_with fail
    go_ret2
    exact ⟨rfl, rfl⟩
  · intro W
    go_enter Tryd.func9, Tryd.ntmps9
    go_wp2_with fail
    go_ret
    exact ⟨rfl, rfl⟩
set_option maxRecDepth 100000 in
theorem kn_abs : OpsN ⟨#[97, 98, 115]⟩ 1 := by
  constructor
  · intro W
    go_enter Tryd.func7, Tryd.ntmps7
    go_wp2_with fail
    go_ret2
    exact ⟨rfl, rfl⟩
  · intro W
    go_enter Tryd.func9, Tryd.ntmps9
    go_wp2_with fail
    go_ret
    exact ⟨rfl, rfl⟩
set_option maxRecDepth 100000 in
theorem kn_ceiling : OpsN ⟨#[99, 101, 105, 108, 105, 110, 103]⟩ 1 := by
  constructor
  · intro W
    go_enter Tryd.func7, Tryd.ntmps7
    go_wp2_with fail
    go_ret2
    exact ⟨rfl, rfl⟩
  · intro W
    go_enter Tryd.func9, Tryd.ntmps9
    go_wp2_with fail
    go_ret
    exact ⟨rfl, rfl⟩
set_option maxRecDepth 100000 in
theorem kn_floor : OpsN ⟨#[102, 108, 111, 111, 114]⟩ 1 := by
  constructor
  · intro W
    go_enter Tryd.func7, Tryd.ntmps7
    go_wp2_with fail
    go_ret2
    exact ⟨rfl, rfl⟩
  · intro W
    go_enter Tryd.func9, Tryd.ntmps9
    go_wp2_with fail
    go_ret
    exact ⟨rfl, rfl⟩
set_option maxRecDepth 100000 in
theorem kn_round : OpsN ⟨#[114, 111, 117, 110, 100]⟩ 1 := by
  constructor
  · intro W
    go_enter Tryd.func7, Tryd.ntmps7
    go_wp2_with fail
    go_ret2
    exact ⟨rfl, rfl⟩
  · intro W
    go_enter Tryd.func9, Tryd.ntmps9
    go_wp2_with fail
    go_ret
    exact ⟨rfl, rfl⟩
set_option maxRecDepth 100000 in
theorem kn_truncate : OpsN ⟨#[116, 114, 117, 110, 99, 97, 116, 101]⟩ 1 := by
  constructor
  · intro W
    go_enter Tryd.func7, Tryd.ntmps7
    go_wp2_with fail
    go_ret2
    exact ⟨rfl, rfl⟩
  · intro W
    go_enter Tryd.func9, Tryd.ntmps9
    go_wp2_with fail
    go_ret
    exact ⟨rfl, rfl⟩
set_option maxRecDepth 100000 in
theorem kn_sqrt : OpsN ⟨#[115, 113, 114, 116]⟩ 1 := by
  constructor
  · intro W
    go_enter Tryd.func7, Tryd.ntmps7
    go_wp2_with fail
    go_ret2
    exact ⟨rfl, rfl⟩
  · intro W
    go_enter Tryd.func9, Tryd.ntmps9
    go_wp2_with fail
    go_ret
    exact ⟨rfl, rfl⟩
set_option maxRecDepth 100000 in
theorem kn_sin : OpsN ⟨#[115, 105, 110]⟩ 1 := by
  constructor
  · intro W
    go_enter Tryd.func7, Tryd.ntmps7
    go_wp2_with fail
    go_ret2
    exact ⟨rfl, rfl⟩
  · intro W
    go_enter Tryd.func9, Tryd.ntmps9
    go_wp2_with fail
    go_ret
    exact ⟨rfl, rfl⟩
set_option maxRecDepth 100000 in
theorem kn_cos : OpsN ⟨#[99, 111, 115]⟩ 1 := by
  constructor
  · intro W
    go_enter Tryd.func7, Tryd.ntmps7
    go_wp2_with fail
    go_ret2
    exact ⟨rfl, rfl⟩
  · intro W
    go_enter Tryd.func9, Tryd.ntmps9
    go_wp2_with fail
    go_ret
    exact ⟨rfl, rfl⟩
set_option maxRecDepth 100000 in
theorem kn_not : OpsN ⟨#[110, 111, 116]⟩ 1 := by
  constructor
  · intro W
    go_enter Tryd.func7, Tryd.ntmps7
    go_wp2_with fail
    go_ret2
    exact ⟨rfl, rfl⟩
  · intro W
    go_enter Tryd.func9, Tryd.ntmps9
    go_wp2_with fail
    go_ret
    exact ⟨rfl, rfl⟩
set_option maxRecDepth 100000 in
theorem kn_add : OpsN ⟨#[97, 100, 100]⟩ 2 := by
  constructor
  · intro W
    go_enter Tryd.func7, Tryd.ntmps7
    go_wp2_with fail
    go_ret2
    exact ⟨rfl, rfl⟩
  · intro W
    go_enter Tryd.func9, Tryd.ntmps9
    go_wp2_with fail
    go_ret
    exact ⟨rfl, rfl⟩
set_option maxRecDepth 100000 in
theorem kn_sub : OpsN ⟨#[115, 117, 98]⟩ 2 := by
  constructor
  · intro W
    go_enter Tryd.func7, Tryd.ntmps7
    go_wp2_with fail
    go_ret2
    exact ⟨rfl, rfl⟩
  · intro W
    go_enter Tryd.func9, Tryd.ntmps9
    go_wp2_with fail
    go_ret
    exact ⟨rfl, rfl⟩
set_option maxRecDepth 100000 in
theorem kn_mul : OpsN ⟨#[109, 117, 108]⟩ 2 := by
  constructor
  · intro W
    go_enter Tryd.func7, Tryd.ntmps7
    go_wp2_with fail
    go_ret2
    exact ⟨rfl, rfl⟩
  · intro W
    go_enter Tryd.func9, Tryd.ntmps9
    go_wp2_with fail
    go_ret
    exact ⟨rfl, rfl⟩
set_option maxRecDepth 100000 in
theorem kn_div : OpsN ⟨#[100, 105, 118]⟩ 2 := by
  constructor
  · intro W
    go_enter Tryd.func7, Tryd.ntmps7
    go_wp2_with fail
    go_ret2
    exact ⟨rfl, rfl⟩
  · intro W
    go_enter Tryd.func9, Tryd.ntmps9
    go_wp2_with fail
    go_ret
    exact ⟨rfl, rfl⟩
set_option maxRecDepth 100000 in
theorem kn_idiv : OpsN ⟨#[105, 100, 105, 118]⟩ 2 := by
  constructor
  · intro W
    go_enter Tryd.func7, Tryd.ntmps7
    go_wp2_with fail
    go_ret2
    exact ⟨rfl, rfl⟩
  · intro W
    go_enter Tryd.func9, Tryd.ntmps9
    go_wp2_with fail
    go_ret
    exact ⟨rfl, rfl⟩
set_option maxRecDepth 100000 in
theorem kn_mod : OpsN ⟨#[109, 111, 100]⟩ 2 := by
  constructor
  · intro W
    go_enter Tryd.func7, Tryd.ntmps7
    go_wp2_with fail
    go_ret2
    exact ⟨rfl, rfl⟩
  · intro W
    go_enter Tryd.func9, Tryd.ntmps9
    go_wp2_with fail
    go_ret
    exact ⟨rfl, rfl⟩
set_option maxRecDepth 100000 in
theorem kn_and : OpsN ⟨#[97, 110, 100]⟩ 2 := by
  constructor
  · intro W
    go_enter Tryd.func7, Tryd.ntmps7
    go_wp2_with fail
    go_ret2
    exact ⟨rfl, rfl⟩
  · intro W
    go_enter Tryd.func9, Tryd.ntmps9
    go_wp2_with fail
    go_ret
    exact ⟨rfl, rfl⟩
set_option maxRecDepth 100000 in
theorem kn_or : OpsN ⟨#[111, 114]⟩ 2 := by
  constructor
  · intro W
    go_enter Tryd.func7, Tryd.ntmps7
    go_wp2_with fail
    go_ret2
    exact ⟨rfl, rfl⟩
  · intro W
    go_enter Tryd.func9, Tryd.ntmps9
    go_wp2_with fail
    go_ret
    exact ⟨rfl, rfl⟩
set_option maxRecDepth 100000 in
theorem kn_xor : OpsN ⟨#[120, 111, 114]⟩ 2 := by
  constructor
  · intro W
    go_enter Tryd.func7, Tryd.ntmps7
    go_wp2_with fail
    go_ret2
    exact ⟨rfl, rfl⟩
  · intro W
    go_enter Tryd.func9, Tryd.ntmps9
    go_wp2_with fail
    go_ret
    exact ⟨rfl, rfl⟩
set_option maxRecDepth 100000 in
theorem kn_bitshift : OpsN ⟨#[98, 105, 116, 115, 104, 105, 102, 116]⟩ 2 := by
  constructor
  · intro W
    go_enter Tryd.func7, Tryd.ntmps7
    go_wp2_with fail
    go_ret2
    exact ⟨rfl, rfl⟩
  · intro W
    go_enter Tryd.func9, Tryd.ntmps9
    go_wp2_with fail
    go_ret
    exact ⟨rfl, rfl⟩
set_option maxRecDepth 100000 in
theorem kn_gt : OpsN ⟨#[103, 116]⟩ 2 := by
  constructor
  · intro W
    go_enter Tryd.func7, Tryd.ntmps7
    go_wp2_with fail
    go_ret2
    exact ⟨rfl, rfl⟩
  · intro W
    go_enter Tryd.func9, Tryd.ntmps9
    go_wp2_with fail
    go_ret
    exact ⟨rfl, rfl⟩
set_option maxRecDepth 100000 in
theorem kn_ge : OpsN ⟨#[103, 101]⟩ 2 := by
  constructor
  · intro W
    go_enter Tryd.func7, Tryd.ntmps7
    go_wp2_with fail
    go_ret2
    exact ⟨rfl, rfl⟩
  · intro W
    go_enter Tryd.func9, Tryd.ntmps9
    go_wp2_with fail
    go_ret
    exact ⟨rfl, rfl⟩
set_option maxRecDepth 100000 in
theorem kn_lt : OpsN ⟨#[108, 116]⟩ 2 := by
  constructor
  · intro W
    go_enter Tryd.func7, Tryd.ntmps7
    go_wp2_with fail
    go_ret2
    exact ⟨rfl, rfl⟩
  · intro W
    go_enter Tryd.func9, Tryd.ntmps9
    go_wp2_with fail
    go_ret
    exact ⟨rfl, rfl⟩
set_option maxRecDepth 100000 in
theorem kn_le : OpsN ⟨#[108, 101]⟩ 2 := by
  constructor
  · intro W
    go_enter Tryd.func7, Tryd.ntmps7
    go_wp2_with fail
    go_ret2
    exact ⟨rfl, rfl⟩
  · intro W
    go_enter Tryd.func9, Tryd.ntmps9
    go_wp2_with fail
    go_ret
    exact ⟨rfl, rfl⟩
set_option maxRecDepth 100000 in
theorem kn_none (nm : ByteArray) (h1 : ∀ l ∈ names1, (nm.toList == l) = false) (h2 : ∀ l ∈ names2, (nm.toList == l) = false) : OpsN nm 0 := by
  unfold names1 at h1
  unfold names2 at h2
  simp only [List.mem_cons, List.not_mem_nil, or_false, forall_eq_or_imp, forall_eq] at h1 h2
  obtain ⟨g0, g1, g2, g3, g4, g5, g6, g7, g8, g9⟩ := h1
  obtain ⟨h0, h1, h2, h3, h4, h5, h6, h7, h8, h9, h10, h11, h12, h13⟩ := h2
  constructor
  · intro W
    go_enter Tryd.func7, Tryd.ntmps7
    go_wp2_with fail
    go_ret2
    exact ⟨rfl, rfl⟩
  · intro W
    go_enter Tryd.func9, Tryd.ntmps9
    go_wp2_with fail
    go_ret
    exact ⟨rfl, rfl⟩
end Ari
end Go.Proofs.YtgbpldfcahajeaaDoor
