/-
  compared at each of its closures (made by genari.py).
-/
import Derived.Test.YtfilbfenpdaahaaGreatDoorAriOb
import Derived.Deep.RegionWith
namespace Go.Proofs.YtfilbfenpdaahaaGreatDoor
open Go.RowKit
open Fx
namespace Ari
/-- function g can be entered -/
def Ent (g : Nat) : Prop := ∀ (args : Array Value) (w : World), (callFunc g args).run Tryz.prog w = .ok (.enter g args) w
theorem ent_of {g : Nat} {fn : Func} {c : Code} (hf : Tryz.prog.funcs[g]? = some fn) (hname : (fn.name == "runtime.NumGoroutine") = false) (hb : fn.body = some c) : Ent g := by
  intro args w
  have h1 : fn.name ≠ "runtime.NumGoroutine" := by simpa using hname
  simp [callFunc, hf, h1, hb, mark]
/-- what a closure of two numbers answers -/
def Asks (g : Nat) (R : Int → Int → Bool) : Prop := Ent g ∧ ∀ (x y : Int) (w : World), Calls Tryz.prog g #[.int .i64 x, .int .i64 y] w fun e w' => e = .returned (.bool (R x y)) ∧ w = w'
set_option maxHeartbeats 4000000 in
set_option maxRecDepth 100000 in
theorem cmp_any {g : Nat} {R : Int → Int → Bool} (hC : Asks g R) (a b : Ob) (w : World) : Calls Tryz.prog 89 #[a.val, b.val, .func (.func g) #[] #[]] w fun e w' => e = .returned (.tuple #[.bool (isNumB a && isNumB b && R (valI a) (valI b)), .bool (isNumB a && isNumB b)]) ∧ Below w.heap.size w w' := by
  have hB := both_num a b
  cases h : (isNumB a && isNumB b)
  · rw [h] at hB
    clear h
    unfold Ob.val at *
    go_enter Tryz.func89, Tryz.ntmps89
    go_wp2_with fail
    refine (hB _).mono ?_; rintro e w1 ⟨rfl, hb1⟩
    go_wp2_with fail
    go_ret2
    exact ⟨by simp, bthen (below2 _ _ _) hb1⟩
  · rw [h] at hB
    rw [Bool.and_eq_true] at h
    have hx := value_any a
    have hy := value_any b
    have h1 := h.1
    have h2 := h.2
    have HX := Lib.hid (fun W => hx W h1)
    have HY := Lib.hid (fun W => hy W h2)
    have HC := Lib.hid (fun W => hC.2 (valI a) (valI b) W)
    have hE : ∀ (args : Array Value) (w : World), (callFunc g args).run Tryz.prog w = .ok (.enter g args) w := hC.1
    clear hx hy h h1 h2 hC
    generalize hx : valI a = x at *
    generalize hy : valI b = y at *
    generalize R x y = rr at *
    clear hx hy
    obtain ⟨ka, xa, ca, na, sa, ra, fa, la⟩ := a
    obtain ⟨kb, xb, cb, nb, sb, rb, fb, lb⟩ := b
    unfold Ob.val at *
    simp only at *
    go_enter Tryz.func89, Tryz.ntmps89
    go_wp2_with fail
    refine (hB _).mono ?_; rintro e w1 ⟨rfl, hb1⟩
    have r0 := rule hb1 w.heap.size (by simp <;> omega)
    have r1 := rule hb1 (w.heap.size + 1) (by simp)
    have HB1 := Lib.hid (bthen (below2 _ _ _) hb1)
    have hz1 : w.heap.size + 1 < w1.heap.size := by have := hb1.size; simp at this; omega
    clear hb1
    go_wp2_with fail
    go_region_with (first | (go_at_call 112; first | (with_reducible refine (HX.out _).mono ?_; rintro e w2 ⟨rfl, hb2⟩; have r2 := ruleD hb2 (w.heap.size + 1) hz1; have HB2 := Lib.hid (bthenD HB1.out hb2); clear hb2) | (with_reducible refine (HY.out _).mono ?_; rintro e w3 ⟨rfl, hb3⟩; have HB3 := Lib.hid (bthen HB2.out hb3); clear hb3) | fail) | (with_reducible refine (HC.out _).mono ?_; rintro e w4 ⟨rfl, rfl⟩))
    all_goals go_wp2_with fail
    all_goals go_ret2
    all_goals exact ⟨rfl, HB3.out⟩
theorem clo_eq : Asks 90 (fun x y => x == y) := by
  refine ⟨ent_of Tryz.func90 (by kernel_rfl) rfl, ?_⟩
  intro x y w
  go_enter Tryz.func90, Tryz.ntmps90
  go_wp2
  go_ret
  exact ⟨rfl, rfl⟩
end Ari
end Go.Proofs.YtfilbfenpdaahaaGreatDoor
