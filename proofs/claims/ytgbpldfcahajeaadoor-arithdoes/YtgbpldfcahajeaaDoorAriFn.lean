/-
  The functions that the operators hand in: sums, bits, quotients, shifts; those of package fix.
-/
import Derived.Test.YtgbpldfcahajeaaDoorAriNum
import Derived.Laws.ShiftsVar
namespace Go.Proofs.YtgbpldfcahajeaaDoor
open Go.RowKit
open Fx
namespace Ari
theorem op_add : Op2 53 (fun x y => x + y) := by
  refine ⟨ent_of Tryd.func53 (by kernel_rfl) rfl, ?_⟩
  intro x y w hx hy
  obtain ⟨x1, x2⟩ := (fits_iff x).1 hx
  obtain ⟨y1, y2⟩ := (fits_iff y).1 hy
  clear hx hy
  go_enter Tryd.func53, Tryd.ntmps53
  go_wp2
  go_ret
  exact ⟨rfl, Below.refl _ _⟩
theorem op_sub : Op2 55 (fun x y => x - y) := by
  refine ⟨ent_of Tryd.func55 (by kernel_rfl) rfl, ?_⟩
  intro x y w hx hy
  obtain ⟨x1, x2⟩ := (fits_iff x).1 hx
  obtain ⟨y1, y2⟩ := (fits_iff y).1 hy
  clear hx hy
  go_enter Tryd.func55, Tryd.ntmps55
  go_wp2
  go_ret
  exact ⟨rfl, Below.refl _ _⟩
theorem wrap64_32 (n : Int) : wrap64 (wrap32 n) = wrap32 n := by unfold wrap64 wrap32; omega
theorem op_mul : Op2 57 (fun x y => x * y) := by
  refine ⟨ent_of Tryd.func57 (by kernel_rfl) rfl, ?_⟩
  intro x y w hx hy
  obtain ⟨x1, x2⟩ := (fits_iff x).1 hx
  obtain ⟨y1, y2⟩ := (fits_iff y).1 hy
  obtain ⟨z1, z2⟩ := prod_bd x y (by omega) (by omega) (by omega) (by omega)
  clear hx hy
  go_enter Tryd.func57, Tryd.ntmps57
  go_wp2
  go_ret
  exact ⟨rfl, Below.refl _ _⟩
theorem op_and : Op2 65 (fun x y => bits .and .i64 x y) := by
  refine ⟨ent_of Tryd.func65 (by kernel_rfl) rfl, ?_⟩
  intro x y w hx hy
  go_enter Tryd.func65, Tryd.ntmps65
  go_wp2
  go_ret
  exact ⟨rfl, Below.refl _ _⟩
theorem op_or : Op2 66 (fun x y => bits .or .i64 x y) := by
  refine ⟨ent_of Tryd.func66 (by kernel_rfl) rfl, ?_⟩
  intro x y w hx hy
  go_enter Tryd.func66, Tryd.ntmps66
  go_wp2
  go_ret
  exact ⟨rfl, Below.refl _ _⟩
theorem op_xor : Op2 67 (fun x y => bits .xor .i64 x y) := by
  refine ⟨ent_of Tryd.func67 (by kernel_rfl) rfl, ?_⟩
  intro x y w hx hy
  go_enter Tryd.func67, Tryd.ntmps67
  go_wp2
  go_ret
  exact ⟨rfl, Below.refl _ _⟩
def quoV (x y : Int) : Int := if y = 0 ∨ (x = -2147483648 ∧ y = -1) then 0 else x.tdiv y
def quoE (x y : Int) : Int := if y = 0 ∨ (x = -2147483648 ∧ y = -1) then 18 else 0
def remV (x y : Int) : Int := if y = 0 then 0 else x.tmod y
def remE (_ y : Int) : Int := if y = 0 then 18 else 0
theorem fun_quo : Fun2 62 quoV quoE := by
  refine ⟨ent_of Tryd.func62 (by kernel_rfl) rfl, ?_⟩
  intro x y w hx hy
  obtain ⟨x1, x2⟩ := (fits_iff x).1 hx
  obtain ⟨y1, y2⟩ := (fits_iff y).1 hy
  clear hx hy
  unfold quoV quoE
  by_cases h0 : y = 0
  · subst h0
    rw [if_pos (by simp), if_pos (by simp)]
    go_enter Tryd.func62, Tryd.ntmps62
    go_wp2
    go_ret2
    exact ⟨rfl, Below.refl _ _⟩
  · have h0' : (y == 0) = false := by simpa using h0
    by_cases h1 : x = -2147483648 ∧ y = -1
    · obtain ⟨rfl, rfl⟩ := h1
      rw [if_pos (by simp), if_pos (by simp)]
      go_enter Tryd.func62, Tryd.ntmps62
      go_wp2
      go_ret2
      exact ⟨rfl, Below.refl _ _⟩
    · rw [if_neg (by simp [h0, h1]), if_neg (by simp [h0, h1])]
      have hq := tdiv_bd x y 2147483648 (by omega) (by omega)
      obtain ⟨q1, q2⟩ := hq
      have hw : IntKind.i64.wrap (x.tdiv y) = x.tdiv y := by rw [IntKind.wrap_i64]; omega
      cases hm : (x == -2147483648) <;> cases hn : (y == -1)
      · go_enter Tryd.func62, Tryd.ntmps62
        go_wp2
        go_ret2
        exact ⟨rfl, Below.refl _ _⟩
      · go_enter Tryd.func62, Tryd.ntmps62
        go_wp2
        go_ret2
        exact ⟨rfl, Below.refl _ _⟩
      · go_enter Tryd.func62, Tryd.ntmps62
        go_wp2
        go_ret2
        exact ⟨rfl, Below.refl _ _⟩
      · exfalso; simp at hm hn; exact h1 ⟨hm, hn⟩
theorem fun_rem : Fun2 63 remV remE := by
  refine ⟨ent_of Tryd.func63 (by kernel_rfl) rfl, ?_⟩
  intro x y w hx hy
  obtain ⟨x1, x2⟩ := (fits_iff x).1 hx
  obtain ⟨y1, y2⟩ := (fits_iff y).1 hy
  clear hx hy
  unfold remV remE
  by_cases h0 : y = 0
  · subst h0
    rw [if_pos rfl, if_pos rfl]
    go_enter Tryd.func63, Tryd.ntmps63
    go_wp2
    go_ret2
    exact ⟨rfl, Below.refl _ _⟩
  · have h0' : (y == 0) = false := by simpa using h0
    rw [if_neg h0, if_neg h0]
    go_enter Tryd.func63, Tryd.ntmps63
    go_wp2
    go_ret2
    exact ⟨rfl, Below.refl _ _⟩
def shiV (x s : Int) : Int := if s < 0 then wrap32 (x % 4294967296 / 2 ^ (min (-s).toNat 32)) else wrap32 (x % 4294967296 * 2 ^ (min s.toNat 32) % 4294967296)
theorem fun_shi : Fun2 68 shiV (fun _ _ => 0) := by
  refine ⟨ent_of Tryd.func68 (by kernel_rfl) rfl, ?_⟩
  intro x y w hx hy
  obtain ⟨x1, x2⟩ := (fits_iff x).1 hx
  obtain ⟨y1, y2⟩ := (fits_iff y).1 hy
  clear hx hy
  unfold shiV
  by_cases h : y < 0
  · rw [if_pos h]
    obtain ⟨c, rfl⟩ : ∃ c : Int, y = -c := ⟨-y, by omega⟩
    have h0 : 0 ≤ c := by omega
    have h0' : 0 < c := by omega
    have hn : - -c = c := by omega
    rw [hn]
    clear h
    go_enter Tryd.func68, Tryd.ntmps68
    go_wp2
    go_ret2
    exact ⟨by simp [wrap64_32], Below.refl _ _⟩
  · rw [if_neg h]
    go_enter Tryd.func68, Tryd.ntmps68
    go_wp2
    go_ret2
    exact ⟨by simp [wrap64_32], Below.refl _ _⟩
theorem fun_fadd : Fun2 54 addV addE := ⟨ent_of Tryd.func54 (by kernel_rfl) rfl, fun x y w _ _ => (fixAdd_any x y w).mono fun e w' ⟨h1, h2⟩ => ⟨h1, by rw [← h2]; exact Below.refl _ _⟩⟩
theorem fun_fsub : Fun2 56 subV subE := ⟨ent_of Tryd.func56 (by kernel_rfl) rfl, fun x y w _ _ => (fixSub_any x y w).mono fun e w' ⟨h1, h2⟩ => ⟨h1, by rw [← h2]; exact Below.refl _ _⟩⟩
theorem fun_fmul : Fun2 58 mulV mulE := ⟨ent_of Tryd.func58 (by kernel_rfl) rfl, fun x y w _ _ => (fixMul_any x y w).mono fun e w' ⟨h1, k, h2⟩ => ⟨h1, by rw [h2]; exact bdraw _ _⟩⟩
theorem fun_fdiv : Fun2 60 divV divE := ⟨ent_of Tryd.func60 (by kernel_rfl) rfl, fun x y w _ _ => (fixDiv_any x y w).mono fun e w' ⟨h1, k, h2⟩ => ⟨h1, by rw [h2]; exact bdraw _ _⟩⟩
end Ari
end Go.Proofs.YtgbpldfcahajeaaDoor
