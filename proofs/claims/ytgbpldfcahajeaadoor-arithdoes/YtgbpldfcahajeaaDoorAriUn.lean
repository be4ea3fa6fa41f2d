/-
  The operators of one operand: what they hand in (package fix's, sines, what is never refused); ofReal with a table or a closure; madeWhole.
-/
import Derived.Test.YtgbpldfcahajeaaDoorAriOne
import Derived.Test.YtgbpldfcahajeaaDoorFixRoot
import Derived.Test.YtgbpldfcahajeaaDoorMatTurnW
namespace Go.Proofs.YtgbpldfcahajeaaDoor
open Go.RowKit
open Fx
namespace Ari
def Fun1T (g : Nat) (V E : Int → Int) : Prop := Ent g ∧ ∀ (x : Int) (w : World), SinT w → fits x = true → Calls Tryd.prog g #[.int .i64 x] w fun e w' => e = .returned (.tuple #[.int .i64 (V x), .int .i64 (E x)]) ∧ Below w.heap.size w w'
def Fun0 (g : Nat) (V : Int → Int) : Prop := Ent g ∧ ∀ (x : Int) (w : World), fits x = true → Calls Tryd.prog g #[.int .i64 x] w fun e w' => e = .returned (.int .i64 (V x)) ∧ Below w.heap.size w w'
open Classical in
noncomputable def sqV (a : Int) : Int := if fits a = true ∧ 0 ≤ a then rootOf (a * 65536) (Classical.choose (root_exists (a * 65536).toNat)) else 0
open Classical in
noncomputable def sqE (a : Int) : Int := if fits a = true ∧ 0 ≤ a then 0 else 11
theorem sq_root {a : Int} (h0 : 0 ≤ a) : 0 ≤ Classical.choose (root_exists (a * 65536).toNat) ∧ Classical.choose (root_exists (a * 65536).toNat) * Classical.choose (root_exists (a * 65536).toNat) ≤ a * 65536 ∧ a * 65536 < (Classical.choose (root_exists (a * 65536).toNat) + 1) * (Classical.choose (root_exists (a * 65536).toNat) + 1) := by
  have h := Classical.choose_spec (root_exists (a * 65536).toNat)
  have e : ((a * 65536).toNat : Int) = a * 65536 := by omega
  exact ⟨h.1, Int.le_trans h.2.1 (by omega), Int.lt_of_le_of_lt (by omega : a * 65536 ≤ ((a * 65536).toNat : Int)) h.2.2⟩
def sinV (x : Int) : Int := sinZ ((x + 32768) / 65536)
def cosV (x : Int) : Int := sinZ ((x + 32768) / 65536 + 90)
theorem fun_ceil : Fun1 42 ceilV ceilE := ⟨ent_of Tryd.func42 (by kernel_rfl) rfl, fun x w _ => (fixCeiling_any x w).mono fun e w' ⟨h1, h2⟩ => ⟨h1, by rw [← h2]; exact Below.refl _ _⟩⟩
theorem fun_round : Fun1 45 rouV rouE := ⟨ent_of Tryd.func45 (by kernel_rfl) rfl, fun x w _ => (fixRound_any x w).mono fun e w' ⟨h1, h2⟩ => ⟨h1, by rw [← h2]; exact Below.refl _ _⟩⟩
theorem fun_floor : Fun0 44 floV := ⟨ent_of Tryd.func44 (by kernel_rfl) rfl, fun x w _ => (fixFloor_any x w).mono fun e w' ⟨h1, h2⟩ => ⟨h1, by rw [← h2]; exact Below.refl _ _⟩⟩
theorem fun_trunc : Fun0 46 truV := ⟨ent_of Tryd.func46 (by kernel_rfl) rfl, fun x w _ => (fixTruncate_any x w).mono fun e w' ⟨h1, h2⟩ => ⟨h1, by rw [← h2]; exact Below.refl _ _⟩⟩
theorem fun_sqrt : Fun1 48 sqV sqE := by
  refine ⟨ent_of Tryd.func48 (by kernel_rfl) rfl, fun x w hx => ?_⟩
  unfold sqV sqE
  by_cases h0 : 0 ≤ x
  · rw [if_pos ⟨hx, h0⟩, if_pos ⟨hx, h0⟩]
    obtain ⟨r0, r1, r2⟩ := sq_root h0
    exact (fixSqrt_yes x _ w hx h0 r0 r1 r2).mono fun e w' ⟨h1, h2⟩ => ⟨h1, by rw [← h2]; exact Below.refl _ _⟩
  · rw [if_neg (fun h => h0 h.2), if_neg (fun h => h0 h.2)]
    exact (fixSqrt_no x w (.inr (by omega))).mono fun e w' ⟨h1, h2⟩ => ⟨h1, by rw [← h2]; exact Below.refl _ _⟩
theorem refSq_any (x : Int) (w : World) (hx : fits x = true) : Calls Tryd.prog 74 #[.int .i64 x] w fun e w' => e = .returned (.tuple #[.int .i64 (sqV x), .int .i64 (sqE x)]) ∧ w = w' := by
  unfold sqV sqE
  by_cases h0 : 0 ≤ x
  · rw [if_pos ⟨hx, h0⟩, if_pos ⟨hx, h0⟩]
    obtain ⟨r0, r1, r2⟩ := sq_root h0
    exact refSqrt_yes x _ w hx h0 r0 r1 r2
  · rw [if_neg (fun h => h0 h.2), if_neg (fun h => h0 h.2)]
    exact refSqrt_no x w (.inr (by omega))
set_option maxRecDepth 100000 in
theorem fun_sin : Fun1T 49 sinV (fun _ => 0) := by
  refine ⟨ent_of Tryd.func49 (by kernel_rfl) rfl, fun x w ht hx => ?_⟩
  have H := matRotate_yes x hx w ht
  unfold RotY at H
  unfold sinV
  generalize sinZ ((x + 32768) / 65536 + 90) = c at *
  generalize sinZ ((x + 32768) / 65536) = s at *
  go_enter Tryd.func49, Tryd.ntmps49
  go_wp2_with fail
  refine H.mono ?_; rintro e w1 ⟨rfl, hb1⟩
  have HB := Lib.hid hb1
  clear hb1 H
  go_wp2_with fail
  go_ret2
  exact ⟨rfl, bthen HB.out (below1 _ _)⟩
set_option maxRecDepth 100000 in
theorem fun_cos : Fun1T 50 cosV (fun _ => 0) := by
  refine ⟨ent_of Tryd.func50 (by kernel_rfl) rfl, fun x w ht hx => ?_⟩
  have H := matRotate_yes x hx w ht
  unfold RotY at H
  unfold cosV
  generalize sinZ ((x + 32768) / 65536 + 90) = c at *
  generalize sinZ ((x + 32768) / 65536) = s at *
  go_enter Tryd.func50, Tryd.ntmps50
  go_wp2_with fail
  refine H.mono ?_; rintro e w1 ⟨rfl, hb1⟩
  have HB := Lib.hid hb1
  clear hb1 H
  go_wp2_with fail
  go_ret2
  exact ⟨rfl, bthen HB.out (below1 _ _)⟩
set_option maxRecDepth 100000 in
theorem clo_never {h : Nat} {V : Int → Int} (hC : Fun0 h V) (x : Int) (hx : fits x = true) (b : Nat) (w : World) (hc : w.cell? ⟨b, 0, none⟩ = some (.func (.func h) #[] #[])) :
    Calls Tryd.prog 93 #[.int .i64 x, .pointer (some ⟨b, 0, none⟩)] w fun e w' => e = .returned (.tuple #[.int .i64 (V x), .int .i64 0]) ∧ Below w.heap.size w w' := by
  have hE : ∀ (args : Array Value) (w : World), (callFunc h args).run Tryd.prog w = .ok (.enter h args) w := hC.1
  have HC := Lib.hid (fun W => hC.2 x W hx)
  clear hC hx
  go_enter Tryd.func93, Tryd.ntmps93
  go_wp2_with fail
  refine (HC.out _).mono ?_; rintro e w1 ⟨rfl, hb1⟩
  go_wp2_with fail
  go_ret2
  exact ⟨rfl, hb1⟩
theorem ent_never : Ent 93 := ent_of Tryd.func93 (by kernel_rfl) rfl
set_option maxRecDepth 100000 in
theorem never_at (h : Nat) (w : World) : Calls Tryd.prog 43 #[.func (.func h) #[] #[]] w fun e w' => ∃ b, e = .returned (.func (.func 93) #[] #[.pointer (some ⟨b, 0, none⟩)]) ∧ w'.cell? ⟨b, 0, none⟩ = some (.func (.func h) #[] #[]) ∧ Below w.heap.size w w' := by
  go_enter Tryd.func43, Tryd.ntmps43
  go_wp2_with fail
  go_ret
  exact ⟨w.heap.size, rfl, blk_cell (heap_alloc_new w _) 0, below1 _ _⟩
end Ari
end Go.Proofs.YtgbpldfcahajeaaDoor
