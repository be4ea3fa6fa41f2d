/-
  Plain mathematics of matrices of numbers with 16 bits behind the point: sums and products in a row, of whose errors the first is kept; and worlds of which one block alone may have turned.
-/
import Derived.Test.YtgbpldfcahajeaaDoorFixWalks
import Derived.Below
namespace Go.Proofs.YtgbpldfcahajeaaDoor
open Go.RowKit
namespace Fx
/-- the first of two errors -/
def kE (a b : Int) : Int := if a = 0 then b else a
/-- a value, unless there is an error -/
def sel (e v : Int) : Int := if e = 0 then v else 0
theorem kE_zero (a : Int) : kE a 0 = a := by unfold kE; split <;> simp_all
theorem zero_kE (a : Int) : kE 0 a = a := by unfold kE; simp
theorem kE_assoc (a b c : Int) : kE (kE a b) c = kE a (kE b c) := by unfold kE; split <;> simp_all
theorem kE_first {a b : Int} (h : a ≠ 0) : kE a b = a := by unfold kE; rw [if_neg h]
theorem kE_eq_zero {a b : Int} : kE a b = 0 ↔ a = 0 ∧ b = 0 := by unfold kE; split <;> simp_all
def linV (a x c y : Int) : Int := addV (mulV a x) (mulV c y)
def linE (a x c y : Int) : Int := kE (mulE a x) (kE (mulE c y) (addE (mulV a x) (mulV c y)))
def lin1V (a x c y t : Int) : Int := addV (linV a x c y) t
def lin1E (a x c y t : Int) : Int := kE (linE a x c y) (addE (linV a x c y) t)
def crsV (a y c x : Int) : Int := subV (mulV a y) (mulV c x)
def crsE (a y c x : Int) : Int := kE (mulE a y) (kE (mulE c x) (subE (mulV a y) (mulV c x)))
def dltE (m0 m1 m2 m3 x y : Int) : Int := kE (linE m0 x m2 y) (linE m1 x m3 y)
def aplE (m0 m1 m2 m3 m4 m5 x y : Int) : Int := kE (lin1E m0 x m2 y m4) (lin1E m1 x m3 y m5)
theorem fits_zero : fits 0 = true := by decide
theorem fits_outV (n : Int) : fits (outV n) = true := by
  unfold outV; split
  · assumption
  · exact fits_zero
theorem fits_mulV (a b : Int) : fits (mulV a b) = true := by
  unfold mulV; split
  · exact fits_outV _
  · exact fits_zero
theorem addV_zero {v : Int} (h : fits v = true) : addV 0 v = v := by
  unfold addV; rw [fits_zero, h]; simp [outV_yes h]
theorem addE_zero {v : Int} (h : fits v = true) : addE 0 v = 0 := by
  unfold addE; rw [fits_zero, h]; simp [outE_yes h]
end Fx
/-- of the blocks of w none has turned but (perhaps) block b -/
structure But (b : Nat) (w w' : World) : Prop where
  os : w'.os = w.os
  tape : w'.tape = w.tape
  output : w'.output = w.output
  size : w.heap.size ≤ w'.heap.size
  block : ∀ k, k < w.heap.size → k ≠ b → w'.heap[k]? = w.heap[k]?
theorem But.refl (b : Nat) (w : World) : But b w w := ⟨rfl, rfl, rfl, Nat.le_refl _, fun _ _ _ => rfl⟩
theorem But.trans {b : Nat} {u v w : World} (h : But b u v) (k : But b v w) : But b u w :=
  ⟨k.os.trans h.os, k.tape.trans h.tape, k.output.trans h.output, Nat.le_trans h.size k.size, fun i hi hb => (k.block i (Nat.lt_of_lt_of_le hi h.size) hb).trans (h.block i hi hb)⟩
theorem But.draws {b : Nat} {u v : World} (h : But b u v) (k : Nat) : But b u (v.drewN k) := h.trans ⟨rfl, rfl, rfl, Nat.le_refl _, fun _ _ _ => rfl⟩
theorem But.drew {b : Nat} {u v : World} (h : But b u v) : But b u v.drew := h.trans ⟨rfl, rfl, rfl, Nat.le_refl _, fun _ _ _ => rfl⟩
theorem But.alloc {b : Nat} {u v : World} (h : But b u v) (o : Obj) : But b u (v.alloc o) :=
  h.trans ⟨rfl, rfl, rfl, by simp, fun k hk _ => Below.heap_alloc _ _ _ hk⟩
theorem But.put {b : Nat} {u v : World} (h : But b u v) (o : Nat) (x : Value) : But b u (v.setCell ⟨b, o, none⟩ x) :=
  h.trans ⟨rfl, rfl, rfl, by simp [World.setCell], fun k _ hb => Below.heap_setCell _ _ _ _ hb⟩
theorem But.own {b : Nat} {u v : World} (h : But b u v) {p : Addr} (hp : u.heap.size ≤ p.block) (x : Value) : But b u (v.setCell p x) :=
  ⟨h.os, h.tape, h.output, by simpa [World.setCell] using h.size, fun k hk hb => by rw [Below.heap_setCell _ _ _ _ (by omega)]; exact h.block k hk hb⟩
theorem But.cell {b : Nat} {u v : World} (h : But b u v) (k : Nat) (hk : k < u.heap.size) (hb : k ≠ b) : ∀ o, v.cell? ⟨k, o, none⟩ = u.cell? ⟨k, o, none⟩ :=
  fun _ => World.cell?_of_block (w := u) (h.block k hk hb)
theorem But.frozen {b : Nat} {u v : World} (h : But b u v) (k : Nat) (hk : k < u.heap.size) (hb : k ≠ b) : ∀ o, v.frozen? ⟨k, o, none⟩ = u.frozen? ⟨k, o, none⟩ :=
  fun _ => World.frozen?_of_block (w := u) (h.block k hk hb)
theorem But.below {B b : Nat} {w u v : World} (h : But b u v) (hw : Below B w u) (hb : B ≤ b) (hB : B ≤ u.heap.size) : Below B w v :=
  hw.trans ⟨h.os, h.tape, h.output, h.size, fun k hk => h.block k (by omega) (by omega)⟩
/-- what is worked out, with the error kept in block b -/
def Kp (b : Nat) (V E : Int) (w : World) (e : Ending) (w' : World) : Prop :=
  e = .returned (.int .i64 V) ∧ But b w w' ∧ w'.cell? ⟨b, 0, none⟩ = some (.int .i64 E) ∧ w'.frozen? ⟨b, 0, none⟩ = false
open Fx
end Go.Proofs.YtgbpldfcahajeaaDoor
