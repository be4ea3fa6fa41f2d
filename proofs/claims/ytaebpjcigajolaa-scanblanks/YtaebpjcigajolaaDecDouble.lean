/-
  The contract of double: the digits behind a point, doubled in place.
-/
import Derived.Test.YtaebpjcigajolaaDecToken1
import Derived.Laws.OwnMore
import Derived.OwnWalk
namespace Go.Proofs.Ytaebpjcigajolaa
open Go.RowKit
open Fx Dc
namespace Dc
/-- digits doubled, from the last on, and what goes over -/
def dbl : List Nat → List Nat × Nat
  | [] => ([], 0)
  | d :: r => ((2 * d + (dbl r).2) % 10 :: (dbl r).1, (2 * d + (dbl r).2) / 10)
theorem dbl_cons (d : Nat) (r : List Nat) : dbl (d :: r) = ((2 * d + (dbl r).2) % 10 :: (dbl r).1, (2 * d + (dbl r).2) / 10) := rfl
theorem dbl_len (l : List Nat) : (dbl l).1.length = l.length := by
  induction l with
  | nil => rfl
  | cons d r ih => rw [dbl_cons]; simp [ih]
def digs (l : List Nat) : Prop := ∀ d ∈ l, d ≤ 9
theorem dbl_digs (l : List Nat) : digs (dbl l).1 := by
  induction l with
  | nil => intro d h; cases h
  | cons d r ih =>
    intro x hx
    rw [dbl_cons] at hx
    rcases List.mem_cons.1 hx with rfl | hx
    · omega
    · exact ih x hx
theorem dbl_carry (l : List Nat) (h : digs l) : (dbl l).2 ≤ 1 := by
  induction l with
  | nil => simp [dbl]
  | cons d r ih =>
    have h1 := h d (List.mem_cons_self ..)
    have h2 := ih (fun x hx => h x (List.mem_cons_of_mem _ hx))
    rw [dbl_cons]; simp only; omega
end Dc
def u8s (l : List Nat) : List Value := l.map fun (d : Nat) => Value.int .u8 (d : Int)
theorem u8s_len (l : List Nat) : (u8s l).length = l.length := by simp [u8s]
theorem u8s_at (l : List Nat) (k d : Nat) (h : l[k]? = some d) : (u8s l)[k]? = some (.int .u8 (d : Int)) := by
  unfold u8s; rw [List.getElem?_map, h]; rfl
def DblRel (B : Nat) (v : Value) (xs : List Nat) (w : World) (c i : Value) (w' : World) : Prop :=
  ∃ k : Nat, k ≤ xs.length ∧ i = .int .i64 ((k : Int) - 1) ∧ c = .int .i64 ((dbl (xs.drop k)).2 : Nat) ∧ w'.ownsRow B 5 1 v xs.length (u8s (xs.take k ++ (dbl (xs.drop k)).1)) ∧ w.grownBy w' v.ownBlock
theorem double_any (B g cap : Nat) (xs : List Nat) (hx : digs xs) (hlen : xs.length ≤ 3000) (w : World) (hown : w.ownsRow B 5 1 (.slice (some ⟨g, 0, none⟩) xs.length cap) xs.length (u8s xs)) :
    Calls Try.prog 79 #[.slice (some ⟨g, 0, none⟩) xs.length cap] w fun e w' => e = .returned (.int .i64 ((dbl xs).2 : Nat)) ∧ w'.ownsRow B 5 1 (.slice (some ⟨g, 0, none⟩) xs.length cap) xs.length (u8s (dbl xs).1) ∧ w.grownBy w' (some g) := by
  have HO := Lib.hid hown
  clear hown
  go_enter Try.func79, Try.ntmps79
  go_wp2_with fail
  go_loopw [2, 3] (DblRel B (.slice (some ⟨g, 0, none⟩) xs.length cap) xs w) (fun _ i _ => (intOf i + 1).toNat)
  case atStart => 
    refine ⟨xs.length, Nat.le_refl _, rfl, ?_, ?_, World.grownBy.refl _ _⟩
    · rw [List.drop_of_length_le (Nat.le_refl _)]; rfl
    · rw [List.drop_of_length_le (Nat.le_refl _), List.take_of_length_le (Nat.le_refl _)]; simpa [dbl] using HO.out
  case round =>
    obtain ⟨k, hk, rfl, rfl, ho, hg⟩ := hrel
    cases k with
    | zero =>
      have h1 : w.grownBy wr (some g) := hg
      simp only [List.drop_zero, List.take_zero, List.nil_append] at ho ⊢
      have HR := Lib.hid ho
      have HG := Lib.hid h1
      clear ho hg h1
      go_wp2_with fail
      go_ret
      exact ⟨rfl, HR.out, HG.out⟩
    | succ j =>
      have hj : j < xs.length := by omega
      obtain ⟨x, hxj⟩ : ∃ x, xs[j]? = some x := ⟨_, List.getElem?_eq_getElem hj⟩
      have hx9 : x ≤ 9 := hx x (List.mem_of_getElem? hxj)
      have hdrop : xs.drop j = x :: xs.drop (j + 1) := by
        obtain ⟨h1, rfl⟩ := List.getElem?_eq_some_iff.1 hxj
        exact List.drop_eq_getElem_cons h1
      have hc1 : (dbl (xs.drop (j + 1))).2 ≤ 1 := dbl_carry _ (fun d hd => hx d (List.mem_of_mem_drop hd))
      obtain ⟨c, hc⟩ : ∃ c, (dbl (xs.drop (j + 1))).2 = c := ⟨_, rfl⟩
      obtain ⟨r, hr⟩ : ∃ r, (dbl (xs.drop (j + 1))).1 = r := ⟨_, rfl⟩
      have hd : dbl (xs.drop j) = ((2 * x + c) % 10 :: r, (2 * x + c) / 10) := by rw [hdrop, dbl_cons, hc, hr]
      rw [hr] at ho
      rw [hc] at hc1 ⊢
      have hcell : wr.cell? ⟨g, j, none⟩ = some (.int .u8 (x : Int)) := by
        rw [ho.cellAt j (by omega)]
        apply u8s_at
        rw [List.getElem?_append_left (by simp; omega), List.getElem?_take, if_pos (by omega), hxj]
      have hfz : wr.frozen? ⟨g, j, none⟩ = false := ho.frozenAt j
      have hst := ho.stored j (.int .u8 (((2 * x + c) % 10 : Nat) : Int))
      have hset : (u8s (xs.take (j + 1) ++ r)).set j (.int .u8 (((2 * x + c) % 10 : Nat) : Int)) = u8s (xs.take j ++ ((2 * x + c) % 10 :: r)) := by
        unfold u8s
        rw [← List.map_set (f := fun (d : Nat) => Value.int .u8 (d : Int)) (a := (2 * x + c) % 10)]
        congr 1
        have e1 : xs.take (j + 1) = xs.take j ++ [x] := by rw [List.take_add_one, hxj]; rfl
        rw [e1, List.append_assoc, List.set_append_right _ _ (by simp; omega)]
        have e2 : j - (xs.take j).length = 0 := by simp; omega
        rw [e2]; rfl
      rw [hset] at hst
      have HN : Hid (DblRel B (.slice (some ⟨g, 0, none⟩) xs.length cap) xs w (.int .i64 (((2 * x + c) / 10 : Nat) : Int)) (.int .i64 ((j : Int) - 1)) (wr.setCell ⟨g, j, none⟩ (.int .u8 (((2 * x + c) % 10 : Nat) : Int)))) := by
        refine ⟨j, by omega, rfl, by rw [hd], by rw [hd]; exact hst.1, ?_⟩
        have h2 := hst.2
        exact ⟨h2.os.trans hg.os, h2.tape.trans hg.tape, h2.output.trans hg.output, Nat.le_trans hg.size h2.size, fun i hi hne => (h2.block i (Nat.lt_of_lt_of_le hi hg.size) hne).trans (hg.block i hi hne)⟩
      have e : (((j + 1 : Nat) : Int) - 1) = (j : Int) := by omega
      rw [e]
      have e3 : ((((2 * x + c) % 10 : Nat)) : Int) = ((x : Int) * 2 + (c : Int)) % 10 := by omega
      have e4 : ((((2 * x + c) / 10 : Nat)) : Int) = ((x : Int) * 2 + (c : Int)) / 10 := by omega
      rw [e3, e4] at HN
      clear hst hset hd hdrop hxj hr hc e e3 e4 ho hg
      go_wp2_with fail
      exact ⟨HN.out, by simp [intOf]⟩
theorem double_nil (w : World) : Calls Try.prog 79 #[.slice none 0 0] w fun e w' => e = .returned (.int .i64 0) ∧ w = w' := by
  go_enter Try.func79, Try.ntmps79
  go_wp2_with fail
  go_loop [2, 3] (fun c i => c = .int .i64 0 ∧ i = .int .i64 (-1)) (fun _ _ => 0)
  case atStart => exact ⟨rfl, rfl⟩
  case round =>
    obtain ⟨rfl, rfl⟩ := hrel
    go_wp2_with fail
    go_ret
    exact ⟨rfl, rfl⟩
def DblPost (B : Nat) (v : Value) (xs : List Nat) (w : World) (e : Ending) (w' : World) : Prop :=
  e = .returned (.int .i64 ((dbl xs).2 : Nat)) ∧ w'.ownsRow B 5 1 v xs.length (u8s (dbl xs).1) ∧ w.grownBy w' v.ownBlock
theorem double_own (B : Nat) (v : Value) (xs : List Nat) (hx : digs xs) (hlen : xs.length ≤ 3000) (w : World) (hown : w.ownsRow B 5 1 v xs.length (u8s xs)) :
    Calls Try.prog 79 #[v] w (DblPost B v xs w) := by
  rcases hown.2 with ⟨rfl, h0⟩ | ⟨g, cap, cur, rfl, _⟩
  · obtain rfl : xs = [] := List.eq_nil_of_length_eq_zero h0
    refine (double_nil w).mono ?_
    rintro e w' ⟨rfl, rfl⟩
    exact ⟨rfl, hown, World.grownBy.refl _ _⟩
  · exact double_any B g cap xs hx hlen w hown
end Go.Proofs.Ytaebpjcigajolaa
