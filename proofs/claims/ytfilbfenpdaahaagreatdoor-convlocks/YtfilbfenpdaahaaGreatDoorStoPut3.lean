/-
  What is put into an array, by a contract: Put.
-/
import Derived.Test.YtfilbfenpdaahaaGreatDoorStoPut2
import Derived.Test.YtfilbfenpdaahaaGreatDoorStoPart
namespace Go.Proofs.YtfilbfenpdaahaaGreatDoor
open Go.RowKit
open St
/-- behind Put: x has come to its place, or why not -/
def PutP (O : Nat → Prop) (w : World) (s : Nat) (fr : Int) (G : List (Th × Lay)) (o : Ob) (i : Int) (x : Ob) (e : Ending) (w' : World) : Prop :=
  e = .returned (.int .i64 (putE G o i x)) ∧ ((putE G o i x ≠ 0 ∧ Below w.heap.size w w') ∨ (putE G o i x = 0 ∧ ∃ t, tld G o 7 = some t ∧ Rep O w' s fr (putG G t (o.frm + i).toNat x) ∧ Frm O w w'))
theorem frm_set8 {O : Nat → Prop} {w w2 : World} {B o : Nat} {x : Ob} (hb : Below w.heap.size w w2) (hO : O B) : Frm O w (set8 w2 B o x) := by
  obtain ⟨e1, e2, e3⟩ := set8_env w2 B o x
  exact ⟨e1.trans hb.os, e2.trans hb.tape, e3.trans hb.output, by rw [set8_size]; exact hb.size, fun k hk hk2 => (set8_far (fun e => hk2 (by rw [e]; exact hO))).trans (hb.block k hk)⟩
theorem two_boxes {w w3 : World} {o x : Ob} (h : Below ((w.alloc (obC o)).alloc (obC x)).heap.size ((w.alloc (obC o)).alloc (obC x)) w3) : w3.heap[w.heap.size]? = some (obC o) ∧ w3.heap[w.heap.size + 1]? = some (obC x) := below_z h
theorem items_len {x : Th} (h : x.kind = 7) : x.length = x.items.length := by unfold Th.length; rw [if_neg (by omega), if_pos h]
end Go.Proofs.YtfilbfenpdaahaaGreatDoor
