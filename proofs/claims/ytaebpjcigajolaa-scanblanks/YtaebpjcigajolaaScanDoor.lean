/-
  Next's deferred call, which recovers what a reader gave up with, and Next as a whole, by contracts.
-/
import Derived.Test.YtaebpjcigajolaaScanBeg
import Derived.Defers
import Derived.Recover
namespace Go.Proofs.Ytaebpjcigajolaa
open Go.RowKit
open Sc
theorem catch_idle (A B C : Addr) (w : World) :
    CallsD Try.prog 18 #[.pointer (some A), .pointer (some B), .pointer (some C)] .returning w fun e u' w' => e = .returned (.tuple #[]) ∧ u' = .returning ∧ w' = w := by
  refine callsD_of_wpS Try.func18 rfl fun c₀ cs hu => ?_
  apply wpS_seq
  apply wpS_region
  simp [wpOpsS, go_sem, recoverD, hu, Try.ntmps18, Exit.thenS]
  have e : #[Value.pointer (some A), Value.pointer (some B), Value.pointer (some C)] ++ ((Array.replicate 17 undef).setIfInBounds 3 Value.nilIface).setIfInBounds 0 Value.nilIface = #[.pointer (some A), .pointer (some B), .pointer (some C), .nilIface, undef, undef, .nilIface, undef, undef, undef, undef, undef, undef, undef, undef, undef, undef, undef, undef, undef] := by simp [Array.replicate, List.replicate]
  rw [e]
  clear e
  refine wpS_of_wp ?_
  go_wp2_with fail
  refine ⟨rfl, c₀.mode, rfl, _, results_none rfl _ _ _, rfl, hu, rfl⟩
theorem assert_given (v : Value) (xT : TypeId) (w : World) : (Instr.typeAssert (.iface 39 v) xT 39 true).run Try.prog w = .ok (.tuple #[v, .bool true]) w := by
  simp [Instr.typeAssert, run_underlying Try.underlying39, go_sem]
/-- where the three variables of Next lie -/
def Vars (w : World) (A B C : Nat) (k n : Int) (t : ByteArray) (nx e : Int) : Prop :=
  w.heap[A]? = some (tokB k n t) ∧ w.heap[B]? = some (.cells #[.int .i64 nx] 3) ∧ w.heap[C]? = some (.cells #[.int .i64 e] 26)
theorem one_set {w : World} {B : Nat} {v : Value} {t : TypeId} (h : w.heap[B]? = some (.cells #[v] t)) (u : Value) : (w.setCell ⟨B, 0, none⟩ u).heap[B]? = some (.cells #[u] t) := by
  simp [World.setCell, Array.getElem?_modify, h]
theorem lt_of_some {w : World} {B : Nat} {o : Obj} (h : w.heap[B]? = some o) : B < w.heap.size := (Array.getElem?_eq_some_iff.1 h).1
theorem Vars.alloc {w : World} {A B C : Nat} {k n nx e : Int} {t : ByteArray} (h : Vars w A B C k n t nx e) (o : Obj) : Vars (w.alloc o) A B C k n t nx e := by
  obtain ⟨h1, h2, h3⟩ := h
  exact ⟨(Below.heap_alloc _ _ _ (lt_of_some h1)).trans h1, (Below.heap_alloc _ _ _ (lt_of_some h2)).trans h2, (Below.heap_alloc _ _ _ (lt_of_some h3)).trans h3⟩
theorem set_other {w : World} {C o : Nat} {u : Value} {k : Nat} (h : k ≠ C) : (w.setCell ⟨C, o, none⟩ u).heap[k]? = w.heap[k]? := Below.heap_setCell _ _ _ _ h
def varSet (w : World) (A B C : Nat) (k n : Int) (t : ByteArray) (nx e : Int) : World := ((tokSet w A k n t).setCell ⟨B, 0, none⟩ (.int .i64 nx)).setCell ⟨C, 0, none⟩ (.int .i64 e)
theorem varSet_os (w : World) (A B C : Nat) (k n : Int) (t : ByteArray) (nx e : Int) : (varSet w A B C k n t nx e).os = w.os := rfl
theorem varSet_tape (w : World) (A B C : Nat) (k n : Int) (t : ByteArray) (nx e : Int) : (varSet w A B C k n t nx e).tape = w.tape := rfl
theorem varSet_out (w : World) (A B C : Nat) (k n : Int) (t : ByteArray) (nx e : Int) : (varSet w A B C k n t nx e).output = w.output := rfl
theorem set_size (w : World) (a : Addr) (u : Value) : (w.setCell a u).heap.size = w.heap.size := by simp [World.setCell]
theorem vars_set {w : World} {A B C : Nat} {k0 n0 nx0 e0 : Int} {t0 : ByteArray} (h : Vars w A B C k0 n0 t0 nx0 e0) (hAB : A < B) (hBC : B < C) (k n : Int) (t : ByteArray) (nx e : Int) :
    Vars (varSet w A B C k n t nx e) A B C k n t nx e ∧ Below A w (varSet w A B C k n t nx e) ∧ (varSet w A B C k n t nx e).heap.size = w.heap.size := by
  obtain ⟨h1, h2, h3⟩ := h
  have e1 := tokSet_at h1 k n t
  have e2 : (tokSet w A k n t).heap[B]? = some (.cells #[.int .i64 nx0] 3) := (tokSet_other _ _ _ (by omega)).trans h2
  have e3 : (tokSet w A k n t).heap[C]? = some (.cells #[.int .i64 e0] 26) := (tokSet_other _ _ _ (by omega)).trans h3
  have sz : (varSet w A B C k n t nx e).heap.size = w.heap.size := by
    have h1 : (varSet w A B C k n t nx e).heap.size = (tokSet w A k n t).heap.size := by
      unfold varSet
      rw [set_size, set_size]
    rw [h1]; exact tokSet_size w A k n t
  have f1 : (varSet w A B C k n t nx e).heap[A]? = some (tokB k n t) := by
    unfold varSet
    rw [set_other (by omega), set_other (by omega)]; exact e1
  have f2 : (varSet w A B C k n t nx e).heap[B]? = some (.cells #[.int .i64 nx] 3) := by
    unfold varSet
    rw [set_other (by omega)]; exact one_set e2 _
  have f3 : (varSet w A B C k n t nx e).heap[C]? = some (.cells #[.int .i64 e] 26) := by
    unfold varSet
    refine one_set (v := .int .i64 e0) ?_ _
    rw [set_other (by omega)]; exact e3
  have f4 : ∀ j, j < A → (varSet w A B C k n t nx e).heap[j]? = w.heap[j]? := by
    intro j hj
    unfold varSet
    rw [set_other (by omega), set_other (by omega)]; exact tokSet_other _ _ _ (by omega)
  exact ⟨⟨f1, f2, f3⟩, ⟨varSet_os _ _ _ _ _ _ _ _ _, varSet_tape _ _ _ _ _ _ _ _ _, varSet_out _ _ _ _ _ _ _ _ _, Nat.le_of_eq sz.symm, f4⟩, sz⟩
set_option maxRecDepth 100000 in
theorem catch_given (A B C : Nat) (x : Int) (w : World) (k n : Int) (t : ByteArray) (nx e : Int) (hv : Vars w A B C k n t nx e) (hAB : A < B) (hBC : B < C) :
    CallsD Try.prog 18 #[.pointer (some ⟨A, 0, none⟩), .pointer (some ⟨B, 0, none⟩), .pointer (some ⟨C, 0, none⟩)] (.panicking [{ v := .iface 39 (.agg #[.int .i64 x]), recovered := false }]) w fun e u' w' =>
      e = .returned (.tuple #[]) ∧ u' = .panicking [{ v := .iface 39 (.agg #[.int .i64 x]), recovered := true }] ∧ Vars w' A B C 0 0 ⟨#[]⟩ 0 x ∧ Below A w w' := by
  have HV := Lib.hid hv
  obtain ⟨v1, v2, v3⟩ := hv
  obtain ⟨t0, t1, t2, g0, g1, g2⟩ := tok_c v1
  have n0 : w.cell? ⟨B, 0, none⟩ = some (.int .i64 nx) := by simp [World.cell?, v2]
  have e0 : w.cell? ⟨C, 0, none⟩ = some (.int .i64 e) := by simp [World.cell?, v3]
  have nf : w.frozen? ⟨B, 0, none⟩ = false := by simp [World.frozen?, v2]
  have ef : w.frozen? ⟨C, 0, none⟩ = false := by simp [World.frozen?, v3]
  have hlt : C < w.heap.size := (Array.getElem?_eq_some_iff.1 v3).1
  have hA0 : A < w.heap.size := by omega
  have hA1 : B < w.heap.size := by omega
  have d1 : ¬ A = B := by omega
  have d2 : ¬ B = A := by omega
  have d3 : ¬ A = C := by omega
  have d4 : ¬ C = A := by omega
  have d5 : ¬ B = C := by omega
  have d6 : ¬ C = B := by omega
  clear v1 v2 v3
  have hta := fun v xT W => assert_given v xT W
  refine callsD_of_wpS Try.func18 rfl fun c₀ cs hu => ?_
  apply wpS_seq
  apply wpS_region
  simp [wpOpsS, go_sem, recoverD, hu, Try.ntmps18, Exit.thenS]
  have e : #[Value.pointer (some ⟨A, 0, none⟩), Value.pointer (some ⟨B, 0, none⟩), Value.pointer (some ⟨C, 0, none⟩)] ++ ((Array.replicate 17 undef).setIfInBounds 3 (Value.iface 39 (Value.agg #[Value.int IntKind.i64 x]))).setIfInBounds 0 (Value.iface 39 (Value.agg #[Value.int IntKind.i64 x])) = #[.pointer (some ⟨A, 0, none⟩), .pointer (some ⟨B, 0, none⟩), .pointer (some ⟨C, 0, none⟩), (Value.iface 39 (Value.agg #[Value.int IntKind.i64 x])), undef, undef, (Value.iface 39 (Value.agg #[Value.int IntKind.i64 x])), undef, undef, undef, undef, undef, undef, undef, undef, undef, undef, undef, undef, undef] := by simp [Array.replicate, List.replicate]
  rw [e]
  clear e
  refine wpS_of_wp ?_
  go_wp2_with fail
  go_region
  obtain ⟨hv2, hb2, hs2⟩ := vars_set HV.out hAB hBC 0 0 ⟨#[]⟩ 0 x
  exact ⟨rfl, _, rfl, _, results_none rfl _ _ _, rfl, rfl, hv2.alloc _, (hb2.alloc (by rw [hs2]; omega) _).drew⟩
/-- bytes that the numbers' own function is asked of, from world w on -/
def TkAt (w : World) (tk : List UInt8 → Int × Int × Bool × Int) : Prop :=
  ∀ (s : List UInt8) (w' : World), s.length ≤ 127 → Below w.heap.size w w' → Calls Try.prog 51 #[.string ⟨s.toArray⟩] w' fun e w'' =>
    e = .returned (.tuple #[.agg #[.int .i64 (tk s).1, .int .i64 (tk s).2.1, .string ⟨#[]⟩], .bool (tk s).2.2.1, .int .i64 (tk s).2.2.2]) ∧ Below w'.heap.size w' w''
def nextV (l : List UInt8) : Out → Value
  | .err x => .tuple #[tkV 0 0 [], .int .i64 0, .int .i64 x]
  | .tok k n t r => .tuple #[tkV k n t, .int .i64 ((l.length - r.length : Nat) : Int), .int .i64 0]
/-- what Next makes at its beginning -/
def nextW (w : World) (ba : Option Addr) (len cap p : Nat) : World :=
  (((w.alloc (tokB 0 0 ⟨#[]⟩)).alloc (.cells #[.int .i64 0] 3)).alloc (.cells #[.int .i64 0] 26)).alloc (.cells #[.slice ba len cap, .int .i64 p, .slice none 0 0] 42)
theorem nextW_st {w : World} {ba : Option Addr} {cap p : Nat} {l : List UInt8} (hrd : RdB w w.heap.size ba l) (hcl : l.length ≤ cap) (hp : p ≤ l.length) :
    St (nextW w ba l.length cap p) w.heap.size (w.heap.size + 1 + 1 + 1) ba cap l p [] ∧ Vars (nextW w ba l.length cap p) w.heap.size (w.heap.size + 1) (w.heap.size + 1 + 1) 0 0 ⟨#[]⟩ 0 0 ∧ Below w.heap.size w (nextW w ba l.length cap p) := by
  have hb : Below w.heap.size w (nextW w ba l.length cap p) := ((((Below.refl _ _).alloc (Nat.le_refl _) _).alloc (by simp) _).alloc (by simp; omega) _).alloc (by simp; omega) _
  have e1 : (w.alloc (tokB 0 0 ⟨#[]⟩)).heap.size = w.heap.size + 1 := by simp
  have e2 : ((w.alloc (tokB 0 0 ⟨#[]⟩)).alloc (.cells #[.int .i64 0] 3)).heap.size = w.heap.size + 1 + 1 := by simp
  have e3 : (((w.alloc (tokB 0 0 ⟨#[]⟩)).alloc (.cells #[.int .i64 0] 3)).alloc (.cells #[.int .i64 0] 26)).heap.size = w.heap.size + 1 + 1 + 1 := by simp
  have hR : (nextW w ba l.length cap p).heap[w.heap.size + 1 + 1 + 1]? = some (.cells #[.slice ba l.length cap, .int .i64 p, .slice none 0 0] 42) := by
    unfold nextW; rw [← e3]; exact heap_alloc_new _ _
  refine ⟨⟨by omega, by simp [nextW], hp, hcl, by simp [World.cell?, hR], by simp [World.cell?, hR], ⟨.slice none 0 0, by simp [World.cell?, hR], World.ownsRow_nil _ _ _ _⟩, fun o => by simp [World.frozen?, hR], hrd.below hb⟩, ⟨?_, ?_, ?_⟩, hb⟩
  · unfold nextW
    rw [Below.heap_alloc _ _ _ (by omega), Below.heap_alloc _ _ _ (by omega), Below.heap_alloc _ _ _ (by omega)]; exact heap_alloc_new _ _
  · unfold nextW
    rw [Below.heap_alloc _ _ _ (by omega), Below.heap_alloc _ _ _ (by omega), ← e1]; exact heap_alloc_new _ _
  · unfold nextW
    rw [Below.heap_alloc _ _ _ (by omega), ← e2]; exact heap_alloc_new _ _
theorem Vars.drew {w : World} {A B C : Nat} {k n nx e : Int} {t : ByteArray} (h : Vars w A B C k n t nx e) : Vars w.drew A B C k n t nx e := h
theorem vars_fr {w w' : World} {A : Nat} {k n nx e : Int} {t : ByteArray} (h : Vars w A (A + 1) (A + 1 + 1) k n t nx e) (hf : Fr (A + 1 + 1 + 1) w w') : Vars w' A (A + 1) (A + 1 + 1) k n t nx e := by
  obtain ⟨h1, h2, h3⟩ := h
  exact ⟨(hf.block _ (lt_of_some h1) (by omega) (.inl (by omega))).trans h1, (hf.block _ (lt_of_some h2) (by omega) (.inl (by omega))).trans h2, (hf.block _ (lt_of_some h3) (by omega) (.inl (by omega))).trans h3⟩
theorem vars_c {w : World} {A B C : Nat} {k n nx e : Int} {t : ByteArray} (h : Vars w A B C k n t nx e) : w.cell? ⟨A, 0, none⟩ = some (.int .i64 k) ∧ w.cell? ⟨A, 1, none⟩ = some (.int .i64 n) ∧ w.cell? ⟨A, 2, none⟩ = some (.string t) ∧ w.cell? ⟨B, 0, none⟩ = some (.int .i64 nx) ∧ w.cell? ⟨C, 0, none⟩ = some (.int .i64 e) := by
  obtain ⟨h1, h2, h3⟩ := h
  obtain ⟨t0, t1, t2, _⟩ := tok_c h1
  exact ⟨t0, t1, t2, by simp [World.cell?, h2], by simp [World.cell?, h3]⟩
set_option maxHeartbeats 1000000 in
set_option maxRecDepth 100000 in
theorem next_at {w : World} {cap p : Nat} {ba : Option Addr} {l : List UInt8} (hrd : RdB w w.heap.size ba l) (hcl : l.length ≤ cap) (hl : l.length ≤ 65535) (hp : p ≤ l.length) {tk : List UInt8 → Int × Int × Bool × Int}
    (htk : ∀ c r, skp false (l.drop p) = c :: r → regular c = true → TkAt w tk) :
    Calls Try.prog 10 #[.slice ba l.length cap, .int .i64 p] w fun e w' => e = .returned (nextV l (nxt tk (l.drop p))) ∧ Below w.heap.size w w' := by
  obtain ⟨hst, hv, hb⟩ := nextW_st (p := p) hrd hcl hp
  have htok := token_at hst hl (tk := tk) (fun c r e1 e2 s w' hs hf => htk c r e1 e2 s w' hs (hb.trans (hf.below (by omega) hst.lt)))
  have HTok := Lib.hid htok
  have HV := Lib.hid hv
  have HB := Lib.hid hb
  have hmf : ∀ (fn : Fn) (first cap : Array Value) (w : World), (Instr.makeFunc fn first cap).run Try.prog w = .ok (.func fn first cap) w := fun _ _ _ _ => rfl
  have hd : decide ((l.length : Int) < (p : Int)) = false := decide_eq_false (by omega)
  have hd0 : decide ((p : Int) < 0) = false := decide_eq_false (by omega)
  clear htok hv hb hst htk hrd
  go_enter_defers Try.func10, Try.ntmps10
  go_wp2_with fail
  refine HTok.out.mono ?_
  intro e w1 ho
  obtain ⟨o, hoe⟩ : ∃ o, nxt tk (l.drop p) = o := ⟨_, rfl⟩
  rw [hoe] at ho
  have HO := Lib.hid hoe
  clear hoe
  cases o with
  | err x =>
    obtain ⟨rfl, hb⟩ := ho
    have hv1 : Vars w1 w.heap.size (w.heap.size + 1) (w.heap.size + 1 + 1) 0 0 ⟨#[]⟩ 0 0 := vars_fr HV.out hb
    have HV1 := Lib.hid hv1
    have HB1 := Lib.hid (HB.out.trans (hb.below (N := w.heap.size) (by omega) (by simp [nextW])))
    clear hb hv1
    unfold gaveUp
    go_wp2_with fail
    refine leaves_cons (f := 18) (args := #[.pointer (some ⟨w.heap.size, 0, none⟩), .pointer (some ⟨w.heap.size + 1, 0, none⟩), .pointer (some ⟨w.heap.size + 1 + 1, 0, none⟩)]) (by simp) (by simp [go_sem]) ?_
    refine (catch_given _ _ _ x _ _ _ _ _ _ HV1.out (by omega) (by omega)).mono ?_
    rintro e u' w2 ⟨rfl, rfl, hv2, hb2⟩
    rw [HO.out]
    obtain ⟨t0, t1, t2, n0, e0⟩ := vars_c hv2
    have HB2 := Lib.hid (HB1.out.trans hb2)
    clear hb2 hv2
    simp [Leaves, settle, results, Try.results10, go_sem, t0, t1, t2, n0, e0, nextV, tkV, HB2.out]
  | tok k n t r =>
    obtain ⟨q, tx, hq, rfl, hst, hb⟩ := ho
    have hv1 : Vars w1 w.heap.size (w.heap.size + 1) (w.heap.size + 1 + 1) 0 0 ⟨#[]⟩ 0 0 := vars_fr HV.out hb
    have HV1 := Lib.hid hv1
    have HB1 := Lib.hid (HB.out.trans (hb.below (N := w.heap.size) (by omega) (by simp [nextW])))
    obtain ⟨t0, t1, t2, n0, e0⟩ := vars_c hv1
    obtain ⟨_, _, _, g0, g1, g2⟩ := tok_c hv1.1
    have nf : w1.frozen? ⟨w.heap.size + 1, 0, none⟩ = false := by simp [World.frozen?, hv1.2.1]
    have ef : w1.frozen? ⟨w.heap.size + 1 + 1, 0, none⟩ = false := by simp [World.frozen?, hv1.2.2]
    have rc := hst.c1
    have hqn : q = l.length - r.length := by
      have e := congrArg List.length hq
      rw [List.length_drop] at e
      have := hst.le
      omega
    have HQN := Lib.hid hqn
    clear hb hv1 hst hq hqn
    unfold tkV
    go_wp2_with fail
    go_region
    go_wp2_with fail
    have hT := tokSet_at HV1.out.1 k n ⟨t.toArray⟩
    have hv2 : Vars (tokSet w1 w.heap.size k n ⟨t.toArray⟩) w.heap.size (w.heap.size + 1) (w.heap.size + 1 + 1) k n ⟨t.toArray⟩ 0 0 := ⟨hT, (tokSet_other _ _ _ (by omega)).trans HV1.out.2.1, (tokSet_other _ _ _ (by omega)).trans HV1.out.2.2⟩
    obtain ⟨hv3, hb3, hs3⟩ := vars_set hv2 (by omega) (by omega) k n ⟨t.toArray⟩ q 0
    have HV3 := Lib.hid hv3
    have HB3 := Lib.hid (((HB1.out.setCell (p := ⟨w.heap.size, 0, none⟩) (Nat.le_refl _) (.int .i64 k)).setCell (p := ⟨w.heap.size, 1, none⟩) (Nat.le_refl _) (.int .i64 n)).setCell (p := ⟨w.heap.size, 2, none⟩) (Nat.le_refl _) (.string ⟨t.toArray⟩))
    have HB4 : Hid (Below w.heap.size w (varSet (tokSet w1 w.heap.size k n ⟨t.toArray⟩) w.heap.size (w.heap.size + 1) (w.heap.size + 1 + 1) k n ⟨t.toArray⟩ q 0).drew) := (Below.trans HB3.out hb3).drew
    refine leaves_cons (f := 18) (args := #[.pointer (some ⟨w.heap.size, 0, none⟩), .pointer (some ⟨w.heap.size + 1, 0, none⟩), .pointer (some ⟨w.heap.size + 1 + 1, 0, none⟩)]) (by simp) (by simp [go_sem]) ?_
    refine (catch_idle _ _ _ _).mono ?_
    rintro e u' w2 ⟨rfl, rfl, hw2⟩
    have hv4 : Vars w2 w.heap.size (w.heap.size + 1) (w.heap.size + 1 + 1) k n ⟨t.toArray⟩ q 0 := by rw [hw2]; exact HV3.out.drew
    have HB5 : Hid (Below w.heap.size w w2) := by rw [hw2]; exact HB4.out
    clear t0 t1 t2 n0 e0 g0 g1 g2 nf ef rc hT hv2 hv3 hb3 hs3 HB4 HB3 HV3 hw2
    obtain ⟨t0, t1, t2, n0, e0⟩ := vars_c hv4
    rw [HQN.out] at n0
    rw [HO.out]
    clear hv4
    simp [Leaves, settle, results, Try.results10, go_sem, t0, t1, t2, n0, e0, nextV, tkV, HB5.out]
end Go.Proofs.Ytaebpjcigajolaa
