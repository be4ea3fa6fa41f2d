/-
  coll.Do by contracts: whether all operands are valid, and the deferred call that recovers what a call gave up with.
-/
import Derived.Test.YtmcopfcmnbhaaaaGreatColBase
import Derived.Test.YtmcopfcmnbhaaaaGreatStkRow
import Derived.Defers
import Derived.Recover
namespace Go.Proofs.YtmcopfcmnbhaaaaGreat
open Go.RowKit
open St
namespace Col
theorem catch_idle (A B : Addr) (w : World) :
    CallsD Tryz.prog 42 #[.pointer (some A), .pointer (some B)] .returning w fun e u' w' => e = .returned (.tuple #[]) ∧ u' = .returning ∧ w' = w := by
  refine callsD_of_wpS Tryz.func42 rfl fun c₀ cs hu => ?_
  apply wpS_seq
  apply wpS_region
  simp [wpOpsS, go_sem, recoverD, hu, Tryz.ntmps42, Exit.thenS]
  have e : #[Value.pointer (some A), Value.pointer (some B)] ++ ((Array.replicate 16 undef).setIfInBounds 3 Value.nilIface).setIfInBounds 0 Value.nilIface = #[.pointer (some A), .pointer (some B), .nilIface, undef, undef, .nilIface, undef, undef, undef, undef, undef, undef, undef, undef, undef, undef, undef, undef] := by simp [Array.replicate, List.replicate]
  rw [e]
  clear e
  refine wpS_of_wp ?_
  go_wp2_with fail
  refine ⟨rfl, c₀.mode, rfl, _, results_none rfl _ _ _, rfl, hu, rfl⟩
theorem assert_given (v : Value) (xT : TypeId) (w : World) : (Instr.typeAssert (.iface 100 v) xT 100 true).run Tryz.prog w = .ok (.tuple #[v, .bool true]) w := by
  simp [Instr.typeAssert, run_underlying Tryz.underlying100, go_sem]
/-- the two results' variables -/
def Vrs (w : World) (A B : Nat) (v : Value) (e : Int) : Prop := w.heap[A]? = some (.cells #[v] 34) ∧ w.heap[B]? = some (.cells #[.int .i64 e] 24)
theorem vrs_c {w : World} {A B : Nat} {v : Value} {e : Int} (h : Vrs w A B v e) : w.cell? ⟨A, 0, none⟩ = some v ∧ w.cell? ⟨B, 0, none⟩ = some (.int .i64 e) ∧ w.frozen? ⟨A, 0, none⟩ = false ∧ w.frozen? ⟨B, 0, none⟩ = false := by
  obtain ⟨h1, h2⟩ := h
  exact ⟨by simp [World.cell?, h1], by simp [World.cell?, h2], by simp [World.frozen?, h1], by simp [World.frozen?, h2]⟩
theorem set_one {w : World} {B : Nat} {v : Value} {t : TypeId} (h : w.heap[B]? = some (.cells #[v] t)) (u : Value) : (w.setCell ⟨B, 0, none⟩ u).heap[B]? = some (.cells #[u] t) := by
  simp [World.setCell, Array.getElem?_modify, h]
theorem set_far {w : World} {C o : Nat} {u : Value} {k : Nat} (h : k ≠ C) : (w.setCell ⟨C, o, none⟩ u).heap[k]? = w.heap[k]? := Below.heap_setCell _ _ _ _ h
theorem vrs_set {w : World} {A B : Nat} {v : Value} {e : Int} (h : Vrs w A B v e) (hAB : A < B) (u : Value) (x : Int) :
    Vrs ((w.setCell ⟨A, 0, none⟩ u).setCell ⟨B, 0, none⟩ (.int .i64 x)) A B u x ∧ Frm (fun k => k = A ∨ k = B) w ((w.setCell ⟨A, 0, none⟩ u).setCell ⟨B, 0, none⟩ (.int .i64 x)) := by
  obtain ⟨h1, h2⟩ := h
  have e2 : (w.setCell ⟨A, 0, none⟩ u).heap[B]? = some (.cells #[.int .i64 e] 24) := (set_far (by omega)).trans h2
  refine ⟨⟨(set_far (by omega)).trans (set_one h1 u), set_one e2 _⟩, ⟨rfl, rfl, rfl, by simp [World.setCell], fun k _ hk => ?_⟩⟩
  rw [set_far (fun e => hk (.inr e)), set_far (fun e => hk (.inl e))]
set_option maxRecDepth 100000 in
theorem catch_given (A B : Nat) (x : Int) (w : World) (v : Value) (e : Int) (hv : Vrs w A B v e) (hAB : A < B) :
    CallsD Tryz.prog 42 #[.pointer (some ⟨A, 0, none⟩), .pointer (some ⟨B, 0, none⟩)] (.panicking [{ v := .iface 100 (.agg #[.int .i64 x]), recovered := false }]) w fun e u' w' =>
      e = .returned (.tuple #[]) ∧ u' = .panicking [{ v := .iface 100 (.agg #[.int .i64 x]), recovered := true }] ∧ Vrs w' A B (.slice none 0 0) x ∧ Frm (fun k => k = A ∨ k = B) w w' := by
  have HV := Lib.hid hv
  obtain ⟨n0, e0, nf, ef⟩ := vrs_c hv
  have hlt : B < w.heap.size := (Array.getElem?_eq_some_iff.1 hv.2).1
  have hA0 : A < w.heap.size := by omega
  have d1 : ¬ A = B := by omega
  have d2 : ¬ B = A := by omega
  have hta := fun v xT W => assert_given v xT W
  clear hv
  refine callsD_of_wpS Tryz.func42 rfl fun c₀ cs hu => ?_
  apply wpS_seq
  apply wpS_region
  simp [wpOpsS, go_sem, recoverD, hu, Tryz.ntmps42, Exit.thenS]
  have e : #[Value.pointer (some ⟨A, 0, none⟩), Value.pointer (some ⟨B, 0, none⟩)] ++ ((Array.replicate 16 undef).setIfInBounds 3 (Value.iface 100 (Value.agg #[Value.int IntKind.i64 x]))).setIfInBounds 0 (Value.iface 100 (Value.agg #[Value.int IntKind.i64 x])) = #[.pointer (some ⟨A, 0, none⟩), .pointer (some ⟨B, 0, none⟩), (Value.iface 100 (Value.agg #[Value.int IntKind.i64 x])), undef, undef, (Value.iface 100 (Value.agg #[Value.int IntKind.i64 x])), undef, undef, undef, undef, undef, undef, undef, undef, undef, undef, undef, undef] := by simp [Array.replicate, List.replicate]
  rw [e]
  clear e
  refine wpS_of_wp ?_
  go_wp2_with fail
  go_region
  obtain ⟨hv2, hf2⟩ := vrs_set HV.out hAB (.slice none 0 0) x
  refine ⟨rfl, _, rfl, _, results_none rfl _ _ _, rfl, rfl, ⟨?_, ?_⟩, ?_⟩
  · exact (Below.heap_alloc _ _ _ (by simpa [World.setCell] using hA0)).trans hv2.1
  · exact (Below.heap_alloc _ _ _ (by simpa [World.setCell] using hlt)).trans hv2.2
  · exact ⟨rfl, rfl, rfl, by simp [World.setCell], fun k hk hn => (Below.heap_alloc _ _ _ (by simpa [World.setCell] using hk)).trans (hf2.block k hk hn)⟩
end Col
end Go.Proofs.YtmcopfcmnbhaaaaGreat
