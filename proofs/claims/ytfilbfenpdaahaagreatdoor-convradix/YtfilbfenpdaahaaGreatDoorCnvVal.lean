/-
  The document's values: ten cells each; what is written into their boxes, and answered out of them.
-/
import Derived.Test.YtfilbfenpdaahaaGreatDoorStoWrite
import Derived.Test.YtfilbfenpdaahaaGreatDoorColApp
import Derived.Deep.RegionHeld3
namespace Go.Proofs.YtfilbfenpdaahaaGreatDoor
open Go.RowKit
open St
namespace Mm
/-- a value of the document, plainly: s, a, d are the pointers to its thing -/
structure Vl where
  kind : Int
  exec : Bool
  acc : Int
  n : Int
  name : ByteArray
  s : Value
  a : Value
  d : Value
  frm : Int
  len : Int
def Vl.cells (v : Vl) : List Value := [.int .i64 v.kind, .bool v.exec, .int .i64 v.acc, .int .i64 v.n, .string v.name, v.s, v.a, v.d, .int .i64 v.frm, .int .i64 v.len]
def Vl.val (v : Vl) : Value := .agg #[.int .i64 v.kind, .bool v.exec, .int .i64 v.acc, .int .i64 v.n, .string v.name, v.s, v.a, v.d, .int .i64 v.frm, .int .i64 v.len]
def vlC (v : Vl) : Obj := .cells #[.int .i64 v.kind, .bool v.exec, .int .i64 v.acc, .int .i64 v.n, .string v.name, v.s, v.a, v.d, .int .i64 v.frm, .int .i64 v.len] 53
def nulV : Vl := ⟨0, false, 0, 0, ⟨#[]⟩, .pointer none, .pointer none, .pointer none, 0, 0⟩
def zeroVl : Array Value := #[.int .i64 0, .bool false, .int .i64 0, .int .i64 0, .string ⟨#[]⟩, .pointer none, .pointer none, .pointer none, .int .i64 0, .int .i64 0]
/-- block B has these ten cells now, all else is as it was -/
structure Put10 (W : World) (B : Nat) (t : TypeId) (cs : Array Value) (w' : World) : Prop where
  blk : w'.heap[B]? = some (.cells cs t (0, 0))
  far : ∀ k, k ≠ B → w'.heap[k]? = W.heap[k]?
  size : w'.heap.size = W.heap.size
  os : w'.os = W.os
  tape : w'.tape = W.tape
  output : w'.output = W.output
theorem put10b {W : World} {B : Nat} {c0 c1 c2 c3 c4 c5 c6 c7 c8 c9 : Value} {t : TypeId} (h : W.heap[B]? = some (.cells #[c0, c1, c2, c3, c4, c5, c6, c7, c8, c9] t (0, 0))) (v0 v1 v2 v3 v4 v5 v6 v7 v8 v9 : Value) :
    ((((((((((W.setCell ⟨B, 0, none⟩ v0).setCell ⟨B, 1, none⟩ v1).setCell ⟨B, 2, none⟩ v2).setCell ⟨B, 3, none⟩ v3).setCell ⟨B, 4, none⟩ v4).setCell ⟨B, 5, none⟩ v5).setCell ⟨B, 6, none⟩ v6).setCell ⟨B, 7, none⟩ v7).setCell ⟨B, 8, none⟩ v8).setCell ⟨B, 9, none⟩ v9).heap[B]? = some (.cells #[v0, v1, v2, v3, v4, v5, v6, v7, v8, v9] t (0, 0)) := by
  have a0 := blk_set h 0 v0
  rw [show (#[c0, c1, c2, c3, c4, c5, c6, c7, c8, c9] : Array Value).setIfInBounds 0 v0 = #[v0, c1, c2, c3, c4, c5, c6, c7, c8, c9] from rfl] at a0
  have a1 := blk_set a0 1 v1
  rw [show (#[v0, c1, c2, c3, c4, c5, c6, c7, c8, c9] : Array Value).setIfInBounds 1 v1 = #[v0, v1, c2, c3, c4, c5, c6, c7, c8, c9] from rfl] at a1
  have a2 := blk_set a1 2 v2
  rw [show (#[v0, v1, c2, c3, c4, c5, c6, c7, c8, c9] : Array Value).setIfInBounds 2 v2 = #[v0, v1, v2, c3, c4, c5, c6, c7, c8, c9] from rfl] at a2
  have a3 := blk_set a2 3 v3
  rw [show (#[v0, v1, v2, c3, c4, c5, c6, c7, c8, c9] : Array Value).setIfInBounds 3 v3 = #[v0, v1, v2, v3, c4, c5, c6, c7, c8, c9] from rfl] at a3
  have a4 := blk_set a3 4 v4
  rw [show (#[v0, v1, v2, v3, c4, c5, c6, c7, c8, c9] : Array Value).setIfInBounds 4 v4 = #[v0, v1, v2, v3, v4, c5, c6, c7, c8, c9] from rfl] at a4
  have a5 := blk_set a4 5 v5
  rw [show (#[v0, v1, v2, v3, v4, c5, c6, c7, c8, c9] : Array Value).setIfInBounds 5 v5 = #[v0, v1, v2, v3, v4, v5, c6, c7, c8, c9] from rfl] at a5
  have a6 := blk_set a5 6 v6
  rw [show (#[v0, v1, v2, v3, v4, v5, c6, c7, c8, c9] : Array Value).setIfInBounds 6 v6 = #[v0, v1, v2, v3, v4, v5, v6, c7, c8, c9] from rfl] at a6
  have a7 := blk_set a6 7 v7
  rw [show (#[v0, v1, v2, v3, v4, v5, v6, c7, c8, c9] : Array Value).setIfInBounds 7 v7 = #[v0, v1, v2, v3, v4, v5, v6, v7, c8, c9] from rfl] at a7
  have a8 := blk_set a7 8 v8
  rw [show (#[v0, v1, v2, v3, v4, v5, v6, v7, c8, c9] : Array Value).setIfInBounds 8 v8 = #[v0, v1, v2, v3, v4, v5, v6, v7, v8, c9] from rfl] at a8
  have a9 := blk_set a8 9 v9
  rw [show (#[v0, v1, v2, v3, v4, v5, v6, v7, v8, c9] : Array Value).setIfInBounds 9 v9 = #[v0, v1, v2, v3, v4, v5, v6, v7, v8, v9] from rfl] at a9
  exact a9
theorem put10 {W : World} {B : Nat} {c0 c1 c2 c3 c4 c5 c6 c7 c8 c9 : Value} {t : TypeId} (h : W.heap[B]? = some (.cells #[c0, c1, c2, c3, c4, c5, c6, c7, c8, c9] t (0, 0))) (v0 v1 v2 v3 v4 v5 v6 v7 v8 v9 : Value) :
    Put10 W B t #[v0, v1, v2, v3, v4, v5, v6, v7, v8, v9] ((((((((((W.setCell ⟨B, 0, none⟩ v0).setCell ⟨B, 1, none⟩ v1).setCell ⟨B, 2, none⟩ v2).setCell ⟨B, 3, none⟩ v3).setCell ⟨B, 4, none⟩ v4).setCell ⟨B, 5, none⟩ v5).setCell ⟨B, 6, none⟩ v6).setCell ⟨B, 7, none⟩ v7).setCell ⟨B, 8, none⟩ v8).setCell ⟨B, 9, none⟩ v9) :=
  ⟨put10b h v0 v1 v2 v3 v4 v5 v6 v7 v8 v9, fun k hk => by rw [blk_far hk, blk_far hk, blk_far hk, blk_far hk, blk_far hk, blk_far hk, blk_far hk, blk_far hk, blk_far hk, blk_far hk], by simp only [setC_size], by simp only [setC_os], by simp only [setC_tape], by simp only [setC_output]⟩
theorem results_vl1 {fn : Func} {i : Nat} (hfn : fn.results = #[.cell i 53]) (tmps : Array Value) (W : World) (B : Nat) {c0 c1 c2 c3 c4 c5 c6 c7 c8 c9 : Value} {t : TypeId} (hp : tmps.getD i undef = .pointer (some ⟨B, 0, none⟩)) (h : W.heap[B]? = some (.cells #[c0, c1, c2, c3, c4, c5, c6, c7, c8, c9] t (0, 0))) :
    (results fn tmps).run Tryz.prog W = .ok (.agg #[c0, c1, c2, c3, c4, c5, c6, c7, c8, c9]) W := by
  have h0 : W.cell? ⟨B, 0, none⟩ = some c0 := blk_cell h 0
  have h1 : W.cell? ⟨B, 1, none⟩ = some c1 := blk_cell h 1
  have h2 : W.cell? ⟨B, 2, none⟩ = some c2 := blk_cell h 2
  have h3 : W.cell? ⟨B, 3, none⟩ = some c3 := blk_cell h 3
  have h4 : W.cell? ⟨B, 4, none⟩ = some c4 := blk_cell h 4
  have h5 : W.cell? ⟨B, 5, none⟩ = some c5 := blk_cell h 5
  have h6 : W.cell? ⟨B, 6, none⟩ = some c6 := blk_cell h 6
  have h7 : W.cell? ⟨B, 7, none⟩ = some c7 := blk_cell h 7
  have h8 : W.cell? ⟨B, 8, none⟩ = some c8 := blk_cell h 8
  have h9 : W.cell? ⟨B, 9, none⟩ = some c9 := blk_cell h 9
  have hp2 : tmps[i]?.getD undef = .pointer (some ⟨B, 0, none⟩) := by rw [← hp]; simp
  simp [results, hfn, go_sem, hp2, h0, h1, h2, h3, h4, h5, h6, h7, h8, h9]
theorem results_vl2 {fn : Func} {i j : Nat} (hfn : fn.results = #[.cell i 53, .tmp j]) (tmps : Array Value) (W : World) (B : Nat) {c0 c1 c2 c3 c4 c5 c6 c7 c8 c9 v : Value} {t : TypeId} (hp : tmps.getD i undef = .pointer (some ⟨B, 0, none⟩)) (hv : tmps.getD j undef = v) (h : W.heap[B]? = some (.cells #[c0, c1, c2, c3, c4, c5, c6, c7, c8, c9] t (0, 0))) :
    (results fn tmps).run Tryz.prog W = .ok (.tuple #[.agg #[c0, c1, c2, c3, c4, c5, c6, c7, c8, c9], v]) W := by
  have h0 : W.cell? ⟨B, 0, none⟩ = some c0 := blk_cell h 0
  have h1 : W.cell? ⟨B, 1, none⟩ = some c1 := blk_cell h 1
  have h2 : W.cell? ⟨B, 2, none⟩ = some c2 := blk_cell h 2
  have h3 : W.cell? ⟨B, 3, none⟩ = some c3 := blk_cell h 3
  have h4 : W.cell? ⟨B, 4, none⟩ = some c4 := blk_cell h 4
  have h5 : W.cell? ⟨B, 5, none⟩ = some c5 := blk_cell h 5
  have h6 : W.cell? ⟨B, 6, none⟩ = some c6 := blk_cell h 6
  have h7 : W.cell? ⟨B, 7, none⟩ = some c7 := blk_cell h 7
  have h8 : W.cell? ⟨B, 8, none⟩ = some c8 := blk_cell h 8
  have h9 : W.cell? ⟨B, 9, none⟩ = some c9 := blk_cell h 9
  have hp2 : tmps[i]?.getD undef = .pointer (some ⟨B, 0, none⟩) := by rw [← hp]; simp
  have hv2 : tmps[j]?.getD undef = v := by rw [← hv]; simp
  simp [results, hfn, go_sem, hp2, hv2, h0, h1, h2, h3, h4, h5, h6, h7, h8, h9]
theorem cells10 {w : World} {B : Nat} {c0 c1 c2 c3 c4 c5 c6 c7 c8 c9 : Value} {t : TypeId} (h : w.heap[B]? = some (.cells #[c0, c1, c2, c3, c4, c5, c6, c7, c8, c9] t (0, 0))) : w.cell? ⟨B, 0, none⟩ = some c0 ∧ w.cell? ⟨B, 1, none⟩ = some c1 ∧ w.cell? ⟨B, 2, none⟩ = some c2 ∧ w.cell? ⟨B, 3, none⟩ = some c3 ∧ w.cell? ⟨B, 4, none⟩ = some c4 ∧ w.cell? ⟨B, 5, none⟩ = some c5 ∧ w.cell? ⟨B, 6, none⟩ = some c6 ∧ w.cell? ⟨B, 7, none⟩ = some c7 ∧ w.cell? ⟨B, 8, none⟩ = some c8 ∧ w.cell? ⟨B, 9, none⟩ = some c9 ∧ ∀ o, w.frozen? ⟨B, o, none⟩ = false :=
  ⟨blk_cell h 0, blk_cell h 1, blk_cell h 2, blk_cell h 3, blk_cell h 4, blk_cell h 5, blk_cell h 6, blk_cell h 7, blk_cell h 8, blk_cell h 9, blk_free h⟩
theorem far10 {W : World} {B M j : Nat} {v v0 v1 v2 v3 v4 v5 v6 v7 v8 v9 : Value} (h : M ≠ B) (hc : W.cell? ⟨M, j, none⟩ = some v) : ((((((((((W.setCell ⟨B, 0, none⟩ v0).setCell ⟨B, 1, none⟩ v1).setCell ⟨B, 2, none⟩ v2).setCell ⟨B, 3, none⟩ v3).setCell ⟨B, 4, none⟩ v4).setCell ⟨B, 5, none⟩ v5).setCell ⟨B, 6, none⟩ v6).setCell ⟨B, 7, none⟩ v7).setCell ⟨B, 8, none⟩ v8).setCell ⟨B, 9, none⟩ v9).cell? ⟨M, j, none⟩ = some v :=
  (World.cell?_of_block (by rw [blk_far h, blk_far h, blk_far h, blk_far h, blk_far h, blk_far h, blk_far h, blk_far h, blk_far h, blk_far h])).trans hc
/-- an append whose run is known, within a region that draws -/
theorem step_append_run {P : Program} {w w2 : World} {ops : Array Oper} {o : Oper} {a : Act} {K : Act → World → Prop} {Q : Exit → Act → World → Prop} {E : Prop} (hgd : o.guard = none) (s x : Operand) (t u ty : TypeId) (v : Value)
    (ho : o.op = .call { callee := .builtin .append, args := #[s, x], argTypes := #[t, u] }) (hty : o.type = ty) (us ux : Value) (hs : a.eval s = us) (hx : a.eval x = ux)
    (hr : (Builtin.append_ #[t, u] ty #[us, ux]).run P w = .ok v w2) (h : K (a.put o.dst v) w2) :
    if Region.wanted o (yielded ops a.tmps) = true then Oper.wp P o a w K Q else E := by
  have hw : Region.wanted o (yielded ops a.tmps) = true := by simp [Region.wanted, hgd]
  rw [if_pos hw]
  unfold Oper.wp execOp
  simp only [ho, hty, resolve, invoke, builtin, Sem.run_bind, Sem.run_pure, Result.andThen_ok, List.map_toArray, List.map_cons, List.map_nil, hs, hx, hr]
  exact h
/-- the document's memory, in its block -/
def memC (fr ck : Int) (av dv sv : Value) (la : Int) : Obj := .cells #[.int .i64 fr, .int .i64 ck, av, dv, sv, .int .i64 la] 48
/-- what is told of n things that may be at most so many, of so many cells -/
def tkE (n most c fr : Int) : Int := if n < 0 then 11 else if most < n then 9 else if fr < c then 20 else 0
theorem tkE_zero {n most c fr : Int} (h : tkE n most c fr = 0) : 0 ≤ n ∧ n ≤ most ∧ c ≤ fr := by
  unfold tkE at h
  split at h
  · cases h
  split at h
  · cases h
  split at h
  · cases h
  omega
def TakeP (w : World) (M : Nat) (fr ck : Int) (av dv sv : Value) (la n most c : Int) (e : Ending) (w' : World) : Prop :=
  (tkE n most c fr ≠ 0 ∧ e = .returned (.int .i64 (tkE n most c fr)) ∧ w' = w) ∨ (tkE n most c fr = 0 ∧ e = .returned (.int .i64 0) ∧ w'.heap[M]? = some (memC (fr - c) (ck + 1) av dv sv la) ∧ Frm (fun k => k = M) w w' ∧ w'.heap.size = w.heap.size)
set_option maxRecDepth 100000 in
theorem take_at {w : World} {M : Nat} {fr ck : Int} {av dv sv : Value} {la : Int} (h : w.heap[M]? = some (memC fr ck av dv sv la)) (n most c : Int) (hf : 0 ≤ fr) (hk : 0 ≤ ck) (hfk : ck + fr ≤ 1048576) (hc : 0 ≤ c) :
    Calls Tryz.prog 50 #[.pointer (some ⟨M, 0, none⟩), .int .i64 n, .int .i64 most, .int .i64 c] w (TakeP w M fr ck av dv sv la n most c) := by
  have c0 : w.cell? ⟨M, 0, none⟩ = some (.int .i64 fr) := blk_cell h 0
  have c1 : w.cell? ⟨M, 1, none⟩ = some (.int .i64 ck) := blk_cell h 1
  have hz := blk_free h
  have hlt : M < w.heap.size := (Array.getElem?_eq_some_iff.1 h).1
  have HH := Lib.hid h
  have hE : tkE n most c fr = if n < 0 then 11 else if most < n then 9 else if fr < c then 20 else 0 := rfl
  clear h
  by_cases h1 : n < 0
  · rw [if_pos h1] at hE
    have HE := Lib.hid hE
    clear hE
    have g1 : decide (n < 0) = true := decide_eq_true h1
    go_enter Tryz.func50, Tryz.ntmps50
    go_wp2_with fail
    go_ret
    exact Or.inl ⟨by rw [HE.out]; decide, by rw [HE.out]; rfl, rfl⟩
  rw [if_neg h1] at hE
  have g1 : decide (n < 0) = false := decide_eq_false h1
  by_cases h2 : most < n
  · rw [if_pos h2] at hE
    have HE := Lib.hid hE
    clear hE
    have g2 : decide (most < n) = true := decide_eq_true h2
    go_enter Tryz.func50, Tryz.ntmps50
    go_wp2_with fail
    go_ret
    exact Or.inl ⟨by rw [HE.out]; decide, by rw [HE.out]; rfl, rfl⟩
  rw [if_neg h2] at hE
  have g2 : decide (most < n) = false := decide_eq_false h2
  by_cases h3 : fr < c
  · rw [if_pos h3] at hE
    have HE := Lib.hid hE
    clear hE
    have g3 : decide (fr < c) = true := decide_eq_true h3
    go_enter Tryz.func50, Tryz.ntmps50
    go_wp2_with fail
    go_ret
    exact Or.inl ⟨by rw [HE.out]; decide, by rw [HE.out]; rfl, rfl⟩
  rw [if_neg h3] at hE
  have HE := Lib.hid hE
  clear hE
  have g3 : decide (fr < c) = false := decide_eq_false h3
  have w0 : IntKind.i64.wrap (fr - c) = fr - c := by rw [IntKind.wrap_i64]; omega
  have w1 : IntKind.i64.wrap (ck + 1) = ck + 1 := by rw [IntKind.wrap_i64]; omega
  go_enter Tryz.func50, Tryz.ntmps50
  go_wp2_with fail
  go_ret
  refine Or.inr ⟨HE.out, rfl, ?_, ⟨rfl, rfl, rfl, by simp [World.setCell], fun k hk1 hk2 => ?_⟩, by simp [World.setCell]⟩
  · have a0 := blk_set HH.out 0 (.int .i64 (fr - c))
    have a1 := blk_set a0 1 (.int .i64 (ck + 1))
    exact a1
  · rw [blk_far hk2, blk_far hk2]
end Mm
end Go.Proofs.YtfilbfenpdaahaaGreatDoor
