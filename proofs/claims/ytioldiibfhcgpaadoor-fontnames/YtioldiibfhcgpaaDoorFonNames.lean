/-
  The contracts of Find, Names and Font: which number a name has.
-/
import Derived.Test.YtioldiibfhcgpaaDoorFonLawA
namespace Go.Proofs.YtioldiibfhcgpaaDoor
open Go.RowKit
namespace Fo
/-- the first number from k on (of n numbers more) whose name is s -/
def fnd (s : ByteArray) : Nat → Nat → Option Nat
  | 0, _ => none
  | n + 1, k => if (nmS k).toList == s.toList then some k else fnd s n (k + 1)
def fndA (s : ByteArray) : Option Nat := fnd s 14 0
theorem fnd_lt (s : ByteArray) : ∀ n k j, fnd s n k = some j → j < n + k
  | 0, _, _, h => by cases h
  | n + 1, k, j, h => by
    unfold fnd at h
    split at h
    · obtain rfl := Option.some.inj h; omega
    · have := fnd_lt s n (k + 1) j h; omega
theorem fnd_yes {s : ByteArray} {n k : Nat} (h : ((nmS k).toList == s.toList) = true) : fnd s (n + 1) k = some k := by rw [fnd, if_pos h]
theorem fnd_no {s : ByteArray} {n k : Nat} (h : ((nmS k).toList == s.toList) = false) : fnd s (n + 1) k = fnd s n (k + 1) := by rw [fnd, if_neg (by simp [h])]
/-- every name is found at its own number -/
theorem fnd_own : ∀ k, k < 14 → fndA (nmS k) = some k := by
  have h : ∀ i j : Fin 14, ((nmS i.1).data.toList == (nmS j.1).data.toList) = decide (i = j) := by decide +kernel
  intro k hk
  have h2 : ∀ n m, n + m = 14 → m ≤ k → fnd (nmS k) n m = some k := by
    intro n
    induction n with
    | zero => intro m h1 h2; omega
    | succ n ih =>
      intro m h1 h2
      have e := h ⟨m, by omega⟩ ⟨k, hk⟩
      rw [← ByteArray.toList_eq, ← ByteArray.toList_eq] at e
      by_cases hm : m = k
      · subst hm
        exact fnd_yes (by rw [e]; simp)
      · rw [fnd_no (by rw [e]; simp; exact hm)]
        exact ih (m + 1) (by omega) (by omega)
  exact h2 14 0 rfl (by omega)
/-- the names as an array's cells -/
def nmC : Array Value := ((List.range 14).map fun k => Value.string (nmS k)).toArray
theorem nmC_size : nmC.size = 14 := by simp [nmC]
theorem nmC_at (k : Nat) (h : k < 14) : nmC[k]? = some (.string (nmS k)) := by simp [nmC, h]
theorem nm_names : nmC = (nmC.toList).toArray := by simp
/-- what lies in the table: the whole array -/
theorem NmT.load {w : World} (h : NmT w) : (loadVar 41 ⟨0, 0, none⟩).run Tryd.prog w = .ok (.agg nmC) w := by
  have hi : (Tryd.prog.info? 41).map (·.size) = some 14 := by kernel_rfl
  have hl : (loadCells ⟨0, 0, none⟩ nmC.toList.length).run Tryd.prog w = .ok nmC.toList.toArray w :=
    run_loadCells_list (P := Tryd.prog) w ⟨0, 0, none⟩ nmC.toList (fun j v hv => by
      have hadd : (⟨0, 0, none⟩ : Addr).add j = ⟨0, j, none⟩ := by unfold Addr.add; split <;> simp_all
      have hj : j < 14 := by have := (List.getElem?_eq_some_iff.1 hv).1; simpa [nmC] using this
      rw [hadd, h j hj]
      rw [Array.getElem?_toList, nmC_at j hj] at hv
      exact hv)
  cases hq : Tryd.prog.info? 41 with
  | none => simp [hq] at hi
  | some i =>
    have hs : i.size = 14 := by simpa [hq] using hi
    have hagg : (isAgg 41).run Tryd.prog w = .ok true w := by
      unfold isAgg
      rw [Sem.run_bind, run_underlying Tryd.underlying41 w]
      simp
    simp only [Array.length_toList, Array.toArray_toList, nmC_size] at hl
    simp [loadVar, Sem.run_bind, hagg, sizeOf, typeInfo, hq, hs, hl]
theorem wpList_load_names {ops : Array Oper} {rest : List Oper} {o : Oper} {a : Act} {w : World} {Q : Exit → Act → World → Prop} (hgd : o.guard = none) (x : Operand) (ho : o.op = .load 41 x)
    (hx : a.eval x = .pointer (some ⟨0, 0, none⟩)) (hn : NmT w)
    (h : wpList Tryd.prog ops Q rest (a.put o.dst (.agg nmC)) w) : wpList Tryd.prog ops Q (o :: rest) a w :=
  wpList_plain hgd fun _ hK => by
    unfold Oper.wp execOp
    simp only [ho, hx, Instr.loadAt, Instr.sureAddr, Sem.run_bind, Sem.run_pure, Result.andThen_ok, hn.load]
    exact hK _ _ h
def FdR (s : ByteArray) (w : World) (i : Value) (w' : World) : Prop := ∃ n k : Nat, n + k = 14 ∧ i = .int .i64 k ∧ fnd s n k = fndA s ∧ w = w'
/-- a number, and whether there is one -/
def fndV (o : Option Nat) : Value := .tuple #[.int .i64 (o.getD 0 : Nat), .bool o.isSome]
theorem nm_index (C : Array Value) (k : Nat) (hk : k < 14) (S : ByteArray) (hc : C[k]? = some (.string S)) (w : World) : (Instr.index 41 (.agg C) (.int .i64 k)).run Tryd.prog w = .ok (.string S) w := by
  have hs : (sizeOf 9).run Tryd.prog w = .ok 1 w := by kernel_rfl
  have ha : (isAgg 9).run Tryd.prog w = .ok false w := by
    unfold isAgg
    rw [Sem.run_bind, run_underlying Tryd.underlying9 w]
    simp
  have hp : (part 9 C k).run Tryd.prog w = .ok (.string S) w := by
    unfold part
    rw [Sem.run_bind, ha]
    simp [hc]
  simp [Instr.index, run_underlying Tryd.underlying41, asIntOf, hs, hp]
  omega
set_option maxRecDepth 100000 in
theorem find_at (s : ByteArray) (w : World) (ht : NmT w) : Calls Tryd.prog 11 #[.string s] w fun e w' => e = .returned (fndV (fndA s)) ∧ w = w' := by
  have HT := Lib.hid ht
  clear ht
  go_enter Tryd.func11, Tryd.ntmps11
  go_wp2_with (refine wpList_load_names rfl _ rfl rfl HT.out ?_)
  have hsz := nmC_size
  generalize hC : nmC = C at *
  have HC := Lib.hid hC
  clear hC
  go_loopw [7] (FdR s w) (fun i _ => 14 - (intOf i).toNat)
  case atStart => exact ⟨14, 0, rfl, rfl, rfl, rfl⟩
  case round =>
    obtain ⟨n, k, hnk, rfl, hf, rfl⟩ := hrel
    cases n with
    | zero =>
      obtain rfl : k = 14 := by omega
      have hv : fndA s = none := hf.symm
      have HV := Lib.hid hv
      clear hf hv
      go_wp2_with fail
      go_ret2
      exact ⟨by rw [HV.out]; rfl, rfl⟩
    | succ n =>
      have hk : k < 14 := by omega
      have hk' : (k : Int) < 14 := by omega
      have hk0 : (0 : Int) ≤ k := by omega
      have hcell : C[k]? = some (.string (nmS k)) := by rw [← HC.out]; exact nmC_at k hk
      have hix := nm_index C k hk (nmS k) hcell
      have HF := Lib.hid hf
      generalize hS : nmS k = S at *
      have HS := Lib.hid hS
      clear hf hS hcell
      cases hb : (S.toList == s.toList) with
      | true =>
        go_wp2_with fail
        go_ret2
        exact ⟨by rw [← HF.out, fnd_yes (by rw [HS.out]; exact hb)]; rfl, rfl⟩
      | false =>
        have HB := Lib.hid hb
        go_wp2_with fail
        go_roundw
        case rel => exact ⟨n, k + 1, by omega, by congr 1, by rw [← HF.out, fnd_no (by rw [HS.out]; exact HB.out)], rfl⟩
        case measure => simp [intOf]; omega
end Fo
end Go.Proofs.YtioldiibfhcgpaaDoor
