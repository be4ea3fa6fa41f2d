/-
  The law CollMoves: its numbers and lists, plainly.
-/
import Derived.Test.YtmcopfcmnbhaaaaGreatColPutI
import Derived.Test.YtmcopfcmnbhaaaaGreatColAns
namespace Go.Proofs.YtmcopfcmnbhaaaaGreat
open Go.RowKit
open St
open Stk
namespace Col
theorem wpList_append_run9 {P : Program} {w w2 : World} {ops : Array Oper} {rest : List Oper} {o : Oper} {a : Act} {Q : Exit → Act → World → Prop} (hw : Region.wanted o (yielded ops a.tmps) = true) (s x : Operand) (t u ty : TypeId) (v : Value)
    (ho : o.op = .call { callee := .builtin .append, args := #[s, x], argTypes := #[t, u] }) (hty : o.type = ty) (us ux : Value) (hs : a.eval s = us) (hx : a.eval x = ux)
    (hr : (Builtin.append_ #[t, u] ty #[us, ux]).run P w = .ok v w2) (h : wpList P ops Q rest (a.put o.dst v) w2) : wpList P ops Q (o :: rest) a w := by
  refine BigFrame.wpList_want hw fun K hK => ?_
  unfold Oper.wp execOp
  simp only [ho, hty, resolve, invoke, builtin, Sem.run_bind, Sem.run_pure, Result.andThen_ok, List.map_toArray, List.map_cons, List.map_nil, hs, hx, hr]
  exact hK _ _ h
theorem keep8 {wC : World} {B B' : Nat} {u0 u1 u2 u3 u4 u5 u6 u7 v0 v1 v2 v3 v4 v5 v6 v7 : Value} (hne : B ≠ B') (h : wC.cell? ⟨B, 0, none⟩ = some u0 ∧ wC.cell? ⟨B, 1, none⟩ = some u1 ∧ wC.cell? ⟨B, 2, none⟩ = some u2 ∧ wC.cell? ⟨B, 3, none⟩ = some u3 ∧ wC.cell? ⟨B, 4, none⟩ = some u4 ∧ wC.cell? ⟨B, 5, none⟩ = some u5 ∧ wC.cell? ⟨B, 6, none⟩ = some u6 ∧ wC.cell? ⟨B, 7, none⟩ = some u7) :
    ((((((((wC.setCell ⟨B', 0, none⟩ v0).setCell ⟨B', 1, none⟩ v1).setCell ⟨B', 2, none⟩ v2).setCell ⟨B', 3, none⟩ v3).setCell ⟨B', 4, none⟩ v4).setCell ⟨B', 5, none⟩ v5).setCell ⟨B', 6, none⟩ v6).setCell ⟨B', 7, none⟩ v7).cell? ⟨B, 0, none⟩ = some u0 ∧ ((((((((wC.setCell ⟨B', 0, none⟩ v0).setCell ⟨B', 1, none⟩ v1).setCell ⟨B', 2, none⟩ v2).setCell ⟨B', 3, none⟩ v3).setCell ⟨B', 4, none⟩ v4).setCell ⟨B', 5, none⟩ v5).setCell ⟨B', 6, none⟩ v6).setCell ⟨B', 7, none⟩ v7).cell? ⟨B, 1, none⟩ = some u1 ∧ ((((((((wC.setCell ⟨B', 0, none⟩ v0).setCell ⟨B', 1, none⟩ v1).setCell ⟨B', 2, none⟩ v2).setCell ⟨B', 3, none⟩ v3).setCell ⟨B', 4, none⟩ v4).setCell ⟨B', 5, none⟩ v5).setCell ⟨B', 6, none⟩ v6).setCell ⟨B', 7, none⟩ v7).cell? ⟨B, 2, none⟩ = some u2 ∧ ((((((((wC.setCell ⟨B', 0, none⟩ v0).setCell ⟨B', 1, none⟩ v1).setCell ⟨B', 2, none⟩ v2).setCell ⟨B', 3, none⟩ v3).setCell ⟨B', 4, none⟩ v4).setCell ⟨B', 5, none⟩ v5).setCell ⟨B', 6, none⟩ v6).setCell ⟨B', 7, none⟩ v7).cell? ⟨B, 3, none⟩ = some u3 ∧ ((((((((wC.setCell ⟨B', 0, none⟩ v0).setCell ⟨B', 1, none⟩ v1).setCell ⟨B', 2, none⟩ v2).setCell ⟨B', 3, none⟩ v3).setCell ⟨B', 4, none⟩ v4).setCell ⟨B', 5, none⟩ v5).setCell ⟨B', 6, none⟩ v6).setCell ⟨B', 7, none⟩ v7).cell? ⟨B, 4, none⟩ = some u4 ∧ ((((((((wC.setCell ⟨B', 0, none⟩ v0).setCell ⟨B', 1, none⟩ v1).setCell ⟨B', 2, none⟩ v2).setCell ⟨B', 3, none⟩ v3).setCell ⟨B', 4, none⟩ v4).setCell ⟨B', 5, none⟩ v5).setCell ⟨B', 6, none⟩ v6).setCell ⟨B', 7, none⟩ v7).cell? ⟨B, 5, none⟩ = some u5 ∧ ((((((((wC.setCell ⟨B', 0, none⟩ v0).setCell ⟨B', 1, none⟩ v1).setCell ⟨B', 2, none⟩ v2).setCell ⟨B', 3, none⟩ v3).setCell ⟨B', 4, none⟩ v4).setCell ⟨B', 5, none⟩ v5).setCell ⟨B', 6, none⟩ v6).setCell ⟨B', 7, none⟩ v7).cell? ⟨B, 6, none⟩ = some u6 ∧ ((((((((wC.setCell ⟨B', 0, none⟩ v0).setCell ⟨B', 1, none⟩ v1).setCell ⟨B', 2, none⟩ v2).setCell ⟨B', 3, none⟩ v3).setCell ⟨B', 4, none⟩ v4).setCell ⟨B', 5, none⟩ v5).setCell ⟨B', 6, none⟩ v6).setCell ⟨B', 7, none⟩ v7).cell? ⟨B, 7, none⟩ = some u7 := by
  have c : ∀ o, ((((((((wC.setCell ⟨B', 0, none⟩ v0).setCell ⟨B', 1, none⟩ v1).setCell ⟨B', 2, none⟩ v2).setCell ⟨B', 3, none⟩ v3).setCell ⟨B', 4, none⟩ v4).setCell ⟨B', 5, none⟩ v5).setCell ⟨B', 6, none⟩ v6).setCell ⟨B', 7, none⟩ v7).cell? ⟨B, o, none⟩ = wC.cell? ⟨B, o, none⟩ := fun o => World.cell?_of_block (by
    rw [set_far hne, set_far hne, set_far hne, set_far hne, set_far hne, set_far hne, set_far hne, set_far hne])
  simp only [c]
  exact h
/-- the numbers from 0 on, below m -/
def intsL (m : Nat) : List Ob := (List.range m).map fun i : Nat => intO (i : Int)
theorem intsL_len (m : Nat) : (intsL m).length = m := by simp [intsL]
theorem intsL_snoc (m : Nat) : intsL (m + 1) = intsL m ++ [intO (m : Int)] := by simp [intsL, List.range_succ]
theorem intsL_at {m i : Nat} (h : i < m) : (intsL m)[i]? = some (intO (i : Int)) := by simp [intsL, h]
theorem valid_int (G : List (Th × Lay)) (n : Int) : valid G (intO n) = true := by unfold valid; rw [if_neg (by simp [intO])]
theorem intsL_valid (G : List (Th × Lay)) (m : Nat) : ∀ o ∈ intsL m, valid G o = true := fun o ho => by
  obtain ⟨i, _, rfl⟩ := List.mem_map.1 ho
  exact valid_int G _
/-- the array of the numbers below m -/
def thI (its : List Ob) : Th := ⟨7, [], its, [], 0, 0⟩
/-- an array's object -/
def obA (f z : Int) : Ob := ⟨7, false, 0, 0, ⟨#[]⟩, 1, f, z⟩
theorem tldA (its : List Ob) (l : Lay) (f z : Nat) (h : f + z ≤ its.length) : tld [(thI its, l)] (obA f z) 7 = some 0 := by
  simp [tld, obA, thI, Th.length, liesB]
  omega
theorem partRA (its : List Ob) (l : Lay) (f z g m : Nat) (h : f + z ≤ its.length) (hg : g + m ≤ z) : partR [(thI its, l)] (obA f z) g m = (obA ((f : Int) + g) m, 0) := by
  unfold partR
  rw [if_neg (by rw [tldA its l f z h]; simp), if_pos (by rw [liesB_iff]; simp [obA]; omega)]
  rfl
theorem itemsRA (its : List Ob) (l : Lay) (f z : Nat) (h : f + z ≤ its.length) : itemsR [(thI its, l)] (obA f z) = (its.drop f).take z := by
  unfold itemsR
  rw [tldA its l f z h]
  simp [obA, thI]
theorem putGA (its : List Ob) (l : Lay) (p : Nat) (x : Ob) : putG [(thI its, l)] 0 p x = [(thI (its.set p x), l)] := by simp [putG, putF, thI]
/-- items set one behind the other -/
def sets : Nat → List Ob → List Ob → List Ob
  | _, [], its => its
  | p, x :: l, its => sets (p + 1) l (its.set p x)
theorem putsGA (ly : Lay) : ∀ (l : List Ob) (its : List Ob) (p : Nat), putsG [(thI its, ly)] 0 p l = [(thI (sets p l its), ly)]
  | [], its, p => rfl
  | x :: l, its, p => by rw [putsG, putGA, putsGA ly l, sets]
theorem sets_len : ∀ (l its : List Ob) (p : Nat), (sets p l its).length = its.length
  | [], _, _ => rfl
  | x :: l, its, p => by rw [sets, sets_len l]; simp
theorem sets_at : ∀ (l its : List Ob) (p i : Nat), i < its.length → (sets p l its)[i]? = if p ≤ i ∧ i < p + l.length then l[i - p]? else its[i]?
  | [], its, p, i, hi => by rw [sets, if_neg (by simp)]
  | x :: l, its, p, i, hi => by
    rw [sets, sets_at l _ (p + 1) i (by simpa using hi)]
    by_cases h1 : p + 1 ≤ i ∧ i < p + 1 + l.length
    · rw [if_pos h1, if_pos (by simp; omega), show i - p = (i - (p + 1)) + 1 by omega, List.getElem?_cons_succ]
    · rw [if_neg h1]
      by_cases h2 : i = p
      · subst h2
        rw [if_pos (by simp), Nat.sub_self, List.getElem?_set_self (by simpa using hi)]; rfl
      · rw [if_neg (by simp; omega), List.getElem?_set_ne (by omega)]
/-- what the array has when its part has moved -/
theorem moved_at (k f z p i : Nat) (hf : f + z ≤ k) (hi : i < k) : (sets p (((intsL k).drop f).take z) (intsL k))[i]? = some (intO (if p ≤ i ∧ i < p + z then (i : Int) - p + f else i)) := by
  have hl : (((intsL k).drop f).take z).length = z := by simp [intsL]; omega
  rw [sets_at _ _ _ _ (by rw [intsL_len]; exact hi), hl]
  by_cases h : p ≤ i ∧ i < p + z
  · rw [if_pos h, if_pos h, List.getElem?_take, if_pos (by omega), List.getElem?_drop, intsL_at (by omega)]
    congr 2
    omega
  · rw [if_neg h, if_neg h, intsL_at hi]
end Col
end Go.Proofs.YtmcopfcmnbhaaaaGreat
