/-
  The contract of double: the digits behind a point, doubled in place.
The contracts of decimal's methods: digit, rounded.
The contracts of cutSign and readDecimal.
-/
import Derived.Test.YtfilbfenpdaahaaGreatDoorDecToken1
import Derived.Laws.OwnMore
import Derived.OwnWalk
namespace Go.Proofs.YtfilbfenpdaahaaGreatDoor
open Go.RowKit
open Fx Dc
namespace Dc
/-- digits doubled, from the last on, and what goes over -/
def dbl : List Nat → List Nat × Nat
  | [] => ([], 0)
  | d :: r => ((2 * d + (dbl r).2) % 10 :: (dbl r).1, (2 * d + (dbl r).2) / 10)
theorem dbl_cons (d : Nat) (r : List Nat) : dbl (d :: r) = ((2 * d + (dbl r).2) % 10 :: (dbl r).1, (2 * d + (dbl r).2) / 10) := rfl
theorem dbl_len (l : List Nat) : (dbl l).1.length = l.length := by
  induction l with
  | nil => rfl
  | cons d r ih => rw [dbl_cons]; simp [ih]
def digs (l : List Nat) : Prop := ∀ d ∈ l, d ≤ 9
theorem dbl_digs (l : List Nat) : digs (dbl l).1 := by
  induction l with
  | nil => intro d h; cases h
  | cons d r ih =>
    intro x hx
    rw [dbl_cons] at hx
    rcases List.mem_cons.1 hx with rfl | hx
    · omega
    · exact ih x hx
theorem dbl_carry (l : List Nat) (h : digs l) : (dbl l).2 ≤ 1 := by
  induction l with
  | nil => simp [dbl]
  | cons d r ih =>
    have h1 := h d (List.mem_cons_self ..)
    have h2 := ih (fun x hx => h x (List.mem_cons_of_mem _ hx))
    rw [dbl_cons]; simp only; omega
end Dc
def u8s (l : List Nat) : List Value := l.map fun (d : Nat) => Value.int .u8 (d : Int)
theorem u8s_len (l : List Nat) : (u8s l).length = l.length := by simp [u8s]
theorem u8s_at (l : List Nat) (k d : Nat) (h : l[k]? = some d) : (u8s l)[k]? = some (.int .u8 (d : Int)) := by
  unfold u8s; rw [List.getElem?_map, h]; rfl
def DblRel (B : Nat) (v : Value) (xs : List Nat) (w : World) (c i : Value) (w' : World) : Prop :=
  ∃ k : Nat, k ≤ xs.length ∧ i = .int .i64 ((k : Int) - 1) ∧ c = .int .i64 ((dbl (xs.drop k)).2 : Nat) ∧ w'.ownsRow B 5 1 v xs.length (u8s (xs.take k ++ (dbl (xs.drop k)).1)) ∧ w.grownBy w' v.ownBlock
theorem double_any (B g cap : Nat) (xs : List Nat) (hx : digs xs) (hlen : xs.length ≤ 3000) (w : World) (hown : w.ownsRow B 5 1 (.slice (some ⟨g, 0, none⟩) xs.length cap) xs.length (u8s xs)) :
    Calls Tryz.prog 132 #[.slice (some ⟨g, 0, none⟩) xs.length cap] w fun e w' => e = .returned (.int .i64 ((dbl xs).2 : Nat)) ∧ w'.ownsRow B 5 1 (.slice (some ⟨g, 0, none⟩) xs.length cap) xs.length (u8s (dbl xs).1) ∧ w.grownBy w' (some g) := by
  have HO := Lib.hid hown
  clear hown
  go_enter Tryz.func132, Tryz.ntmps132
  go_wp2_with fail
  go_loopw [2, 3] (DblRel B (.slice (some ⟨g, 0, none⟩) xs.length cap) xs w) (fun _ i _ => (intOf i + 1).toNat)
  case atStart => 
    refine ⟨xs.length, Nat.le_refl _, rfl, ?_, ?_, World.grownBy.refl _ _⟩
    · rw [List.drop_of_length_le (Nat.le_refl _)]; rfl
    · rw [List.drop_of_length_le (Nat.le_refl _), List.take_of_length_le (Nat.le_refl _)]; simpa [dbl] using HO.out
  case round =>
    obtain ⟨k, hk, rfl, rfl, ho, hg⟩ := hrel
    cases k with
    | zero =>
      have h1 : w.grownBy wr (some g) := hg
      simp only [List.drop_zero, List.take_zero, List.nil_append] at ho ⊢
      have HR := Lib.hid ho
      have HG := Lib.hid h1
      clear ho hg h1
      go_wp2_with fail
      go_ret
      exact ⟨rfl, HR.out, HG.out⟩
    | succ j =>
      have hj : j < xs.length := by omega
      obtain ⟨x, hxj⟩ : ∃ x, xs[j]? = some x := ⟨_, List.getElem?_eq_getElem hj⟩
      have hx9 : x ≤ 9 := hx x (List.mem_of_getElem? hxj)
      have hdrop : xs.drop j = x :: xs.drop (j + 1) := by
        obtain ⟨h1, rfl⟩ := List.getElem?_eq_some_iff.1 hxj
        exact List.drop_eq_getElem_cons h1
      have hc1 : (dbl (xs.drop (j + 1))).2 ≤ 1 := dbl_carry _ (fun d hd => hx d (List.mem_of_mem_drop hd))
      obtain ⟨c, hc⟩ : ∃ c, (dbl (xs.drop (j + 1))).2 = c := ⟨_, rfl⟩
      obtain ⟨r, hr⟩ : ∃ r, (dbl (xs.drop (j + 1))).1 = r := ⟨_, rfl⟩
      have hd : dbl (xs.drop j) = ((2 * x + c) % 10 :: r, (2 * x + c) / 10) := by rw [hdrop, dbl_cons, hc, hr]
      rw [hr] at ho
      rw [hc] at hc1 ⊢
      have hcell : wr.cell? ⟨g, j, none⟩ = some (.int .u8 (x : Int)) := by
        rw [ho.cellAt j (by omega)]
        apply u8s_at
        rw [List.getElem?_append_left (by simp; omega), List.getElem?_take, if_pos (by omega), hxj]
      have hfz : wr.frozen? ⟨g, j, none⟩ = false := ho.frozenAt j
      have hst := ho.stored j (.int .u8 (((2 * x + c) % 10 : Nat) : Int))
      have hset : (u8s (xs.take (j + 1) ++ r)).set j (.int .u8 (((2 * x + c) % 10 : Nat) : Int)) = u8s (xs.take j ++ ((2 * x + c) % 10 :: r)) := by
        unfold u8s
        rw [← List.map_set (f := fun (d : Nat) => Value.int .u8 (d : Int)) (a := (2 * x + c) % 10)]
        congr 1
        have e1 : xs.take (j + 1) = xs.take j ++ [x] := by rw [List.take_add_one, hxj]; rfl
        rw [e1, List.append_assoc, List.set_append_right _ _ (by simp; omega)]
        have e2 : j - (xs.take j).length = 0 := by simp; omega
        rw [e2]; rfl
      rw [hset] at hst
      have HN : Hid (DblRel B (.slice (some ⟨g, 0, none⟩) xs.length cap) xs w (.int .i64 (((2 * x + c) / 10 : Nat) : Int)) (.int .i64 ((j : Int) - 1)) (wr.setCell ⟨g, j, none⟩ (.int .u8 (((2 * x + c) % 10 : Nat) : Int)))) := by
        refine ⟨j, by omega, rfl, by rw [hd], by rw [hd]; exact hst.1, ?_⟩
        have h2 := hst.2
        exact ⟨h2.os.trans hg.os, h2.tape.trans hg.tape, h2.output.trans hg.output, Nat.le_trans hg.size h2.size, fun i hi hne => (h2.block i (Nat.lt_of_lt_of_le hi hg.size) hne).trans (hg.block i hi hne)⟩
      have e : (((j + 1 : Nat) : Int) - 1) = (j : Int) := by omega
      rw [e]
      have e3 : ((((2 * x + c) % 10 : Nat)) : Int) = ((x : Int) * 2 + (c : Int)) % 10 := by omega
      have e4 : ((((2 * x + c) / 10 : Nat)) : Int) = ((x : Int) * 2 + (c : Int)) / 10 := by omega
      rw [e3, e4] at HN
      clear hst hset hd hdrop hxj hr hc e e3 e4 ho hg
      go_wp2_with fail
      exact ⟨HN.out, by simp [intOf]⟩
theorem double_nil (w : World) : Calls Tryz.prog 132 #[.slice none 0 0] w fun e w' => e = .returned (.int .i64 0) ∧ w = w' := by
  go_enter Tryz.func132, Tryz.ntmps132
  go_wp2_with fail
  go_loop [2, 3] (fun c i => c = .int .i64 0 ∧ i = .int .i64 (-1)) (fun _ _ => 0)
  case atStart => exact ⟨rfl, rfl⟩
  case round =>
    obtain ⟨rfl, rfl⟩ := hrel
    go_wp2_with fail
    go_ret
    exact ⟨rfl, rfl⟩
def DblPost (B : Nat) (v : Value) (xs : List Nat) (w : World) (e : Ending) (w' : World) : Prop :=
  e = .returned (.int .i64 ((dbl xs).2 : Nat)) ∧ w'.ownsRow B 5 1 v xs.length (u8s (dbl xs).1) ∧ w.grownBy w' v.ownBlock
theorem double_own (B : Nat) (v : Value) (xs : List Nat) (hx : digs xs) (hlen : xs.length ≤ 3000) (w : World) (hown : w.ownsRow B 5 1 v xs.length (u8s xs)) :
    Calls Tryz.prog 132 #[v] w (DblPost B v xs w) := by
  rcases hown.2 with ⟨rfl, h0⟩ | ⟨g, cap, cur, rfl, _⟩
  · obtain rfl : xs = [] := List.eq_nil_of_length_eq_zero h0
    refine (double_nil w).mono ?_
    rintro e w' ⟨rfl, rfl⟩
    exact ⟨rfl, hown, World.grownBy.refl _ _⟩
  · exact double_any B g cap xs hx hlen w hown
end Go.Proofs.YtfilbfenpdaahaaGreatDoor
namespace Go.Proofs.YtfilbfenpdaahaaGreatDoor
open Go.RowKit
open Fx Dc
namespace Dc
/-- the digit at a place; 0 beyond those that are written -/
def digAt (xs : List Nat) (i : Int) : Nat := if 0 ≤ i then xs.getD i.toNat 0 else 0
theorem digAt_le {xs : List Nat} (h : digs xs) (i : Int) : digAt xs i ≤ 9 := by
  unfold digAt; split
  · rw [List.getD_eq_getElem?_getD]
    cases hx : xs[i.toNat]? with
    | none => simp
    | some x => exact h x (List.mem_of_getElem? hx)
  · omega
theorem digAt_at {xs : List Nat} {k x : Nat} (h : xs[k]? = some x) : digAt xs (k : Int) = x := by
  unfold digAt; rw [if_pos (by omega), Int.toNat_natCast, List.getD_eq_getElem?_getD, h]; rfl
theorem digAt_neg {xs : List Nat} {i : Int} (h : i < 0) : digAt xs i = 0 := by unfold digAt; rw [if_neg (by omega)]
theorem digAt_big {xs : List Nat} {i : Int} (h : (xs.length : Int) ≤ i) : digAt xs i = 0 := by
  unfold digAt; rw [if_pos (by omega), List.getD_eq_getElem?_getD, List.getElem?_eq_none (by omega)]; rfl
/-- the first k digits as a whole number, as far as 2^32 -/
def whS (xs : List Nat) : Nat → Nat
  | 0 => 0
  | k + 1 => min (whS xs k * 10 + digAt xs k) 4294967296
theorem whS_le (xs : List Nat) (k : Nat) : whS xs k ≤ 4294967296 := by
  cases k with
  | zero => simp [whS]
  | succ k => simp only [whS]; omega
/-- n digits from place p on -/
def fromP (xs : List Nat) (p : Int) (n : Nat) : List Nat := (List.range n).map fun (i : Nat) => digAt xs (p + (i : Int))
theorem fromP_len (xs : List Nat) (p : Int) (n : Nat) : (fromP xs p n).length = n := by simp [fromP]
theorem fromP_succ (xs : List Nat) (p : Int) (n : Nat) : fromP xs p (n + 1) = fromP xs p n ++ [digAt xs (p + n)] := by
  unfold fromP; rw [List.range_succ, List.map_append]; rfl
theorem fromP_digs {xs : List Nat} (h : digs xs) (p : Int) (n : Nat) : digs (fromP xs p n) := by
  intro d hd
  unfold fromP at hd
  obtain ⟨i, _, rfl⟩ := List.mem_map.1 hd
  exact digAt_le h _
/-- k doublings: the digits left, and what went over, as a number -/
def dbls : Nat → List Nat → List Nat × Nat
  | 0, l => (l, 0)
  | k + 1, l => ((dbl (dbls k l).1).1, 2 * (dbls k l).2 + (dbl (dbls k l).1).2)
theorem dbls_len (k : Nat) (l : List Nat) : (dbls k l).1.length = l.length := by
  induction k with
  | zero => rfl
  | succ k ih => simp only [dbls]; rw [dbl_len, ih]
theorem dbls_digs (k : Nat) (l : List Nat) (h : digs l) : digs (dbls k l).1 := by
  cases k with
  | zero => exact h
  | succ k => exact dbl_digs _
theorem dbls_bd (k : Nat) (l : List Nat) (h : digs l) : (dbls k l).2 < 2 ^ k := by
  induction k with
  | zero => simp [dbls]
  | succ k ih =>
    have := dbl_carry _ (dbls_digs k l h)
    simp only [dbls]; rw [Nat.pow_succ]; omega
end Dc
/-- digits that lie in a block -/
def DgAt (w : World) (g : Nat) (xs : List Nat) : Prop := g < w.heap.size ∧ ∀ (k x : Nat), xs[k]? = some x → w.cell? ⟨g, k, none⟩ = some (.int .u8 (x : Int))
theorem DgAt.below {w w' : World} {g : Nat} {xs : List Nat} (h : DgAt w g xs) (hb : Below w.heap.size w w') : DgAt w' g xs :=
  ⟨Nat.lt_of_lt_of_le h.1 hb.size, fun k x hx => by rw [(bcell hb).1 _ _ h.1]; exact h.2 k x hx⟩
theorem digit_any (g cap : Nat) (p i : Int) (xs : List Nat) (w : World) (hd : DgAt w g xs) (_hlen : xs.length ≤ 3000) (_hi : -5000 ≤ i) (_hi2 : i ≤ 5000) :
    Calls Tryz.prog 131 #[.agg #[.slice (some ⟨g, 0, none⟩) xs.length cap, .int .i64 p], .int .i64 i] w fun e w' => e = .returned (.int .u8 (digAt xs i : Nat)) ∧ Below w.heap.size w w' := by
  by_cases h0 : i < 0
  · rw [digAt_neg h0]
    clear hd
    go_enter Tryz.func131, Tryz.ntmps131
    go_wp2_with fail
    go_ret
    exact ⟨rfl, (Below.refl _ _).alloc (Nat.le_refl _) _⟩
  · by_cases h1 : (xs.length : Int) ≤ i
    · rw [digAt_big h1]
      clear hd
      go_enter Tryz.func131, Tryz.ntmps131
      go_wp2_with fail
      go_ret
      exact ⟨rfl, (Below.refl _ _).alloc (Nat.le_refl _) _⟩
    · obtain ⟨k, rfl⟩ : ∃ k : Nat, i = k := ⟨i.toNat, by omega⟩
      have hk : k < xs.length := by omega
      obtain ⟨x, hx⟩ : ∃ x, xs[k]? = some x := ⟨_, List.getElem?_eq_getElem hk⟩
      rw [digAt_at hx]
      have hc := hd.2 k x hx
      have hlt := hd.1
      have hc2 : ∀ o, (w.alloc o).cell? ⟨g, k, none⟩ = some (.int .u8 (x : Int)) := fun o => by
        rw [World.cell?_alloc_lt _ _ _ hlt]; exact hc
      clear hd hx hc
      go_enter Tryz.func131, Tryz.ntmps131
      go_wp2_with fail
      go_ret
      exact ⟨rfl, (Below.refl _ _).alloc (Nat.le_refl _) _⟩
namespace Dc
/-- the digits behind the point -/
def fracP (xs : List Nat) (p : Int) : List Nat := fromP xs p ((xs.length : Int) - p).toNat
/-- the number in One-th parts -/
def rndD (xs : List Nat) (p : Int) : Nat := whS xs p.toNat * 65536 + (dbls 16 (fracP xs p)).2 + (dbl (dbls 16 (fracP xs p)).1).2
end Dc
def R1 (xs : List Nat) (p : Int) (W : World) (n i : Value) (w' : World) : Prop :=
  ∃ k : Nat, k ≤ p.toNat ∧ i = .int .i64 (k : Int) ∧ n = .int .i64 ((whS xs k : Nat) : Int) ∧ Below W.heap.size W w'
def R2 (xs : List Nat) (p : Int) (B : Nat) (W : World) (v i : Value) (w' : World) : Prop :=
  ∃ (j : Nat) (v' : Value), v' = v ∧ j ≤ ((xs.length : Int) - p).toNat ∧ i = .int .i64 (p + (j : Int)) ∧ w'.ownsRow B 5 1 v' j (u8s (fromP xs p j)) ∧ Below W.heap.size W w'
theorem u8_info : (Tryz.prog.info? 5).map (fun i => (i.zero, i.size, i.bytes)) = some (some (.int .u8 0), 1, 1) := by kernel_rfl
theorem one_u8 (x : Int) : ∀ u ∈ [Value.int .u8 x], u.oneCell' = true := by
  intro u hu; rw [List.mem_singleton] at hu; subst hu; rfl
theorem src_one (w : World) (x : Value) (t : TypeId) : ∀ j u, ([x] : List Value)[j]? = some u → (w.alloc (Obj.cells #[x] t)).cell? ((⟨w.heap.size, 0, none⟩ : Addr).add j) = some u := by
  intro j u hu
  have hj : j = 0 := by
    rcases j with _ | j
    · rfl
    · simp at hu
  subst hj
  have e : (⟨w.heap.size, 0, none⟩ : Addr).add 0 = ⟨w.heap.size, 0, none⟩ := rfl
  rw [e, World.cell?_alloc_new]
  simpa using hu
theorem fromP_push (xs : List Nat) (p : Int) (j : Nat) : u8s (fromP xs p j) ++ [Value.int .u8 ((digAt xs (p + (j : Int)) : Nat) : Int)] = u8s (fromP xs p (j + 1)) := by
  rw [fromP_succ]; simp [u8s]
def R3 (N : Nat) (F : List Nat) (v : Value) (B : Nat) (w : World) (n i : Value) (w' : World) : Prop :=
  ∃ k : Nat, k ≤ 16 ∧ i = .int .i64 (k : Int) ∧ n = .int .i64 ((N * 2 ^ k + (dbls k F).2 : Nat) : Int) ∧ w'.ownsRow B 5 1 v F.length (u8s (dbls k F).1) ∧ Below w.heap.size w w'
theorem rounded_dec (g cap : Nat) (p : Int) (xs : List Nat) (hx : digs xs) (w : World) (hd : DgAt w g xs) (hlen : xs.length ≤ 100) (hp : -2000 ≤ p) (hp2 : p ≤ 2000) :
    Calls Tryz.prog 109 #[.agg #[.slice (some ⟨g, 0, none⟩) xs.length cap, .int .i64 p]] w fun e w' => e = .returned (.int .i64 (rndD xs p : Nat)) ∧ Below w.heap.size w w' := by
  have HD := Lib.hid hd
  have hglt := hd.1
  clear hd
  go_enter Tryz.func109, Tryz.ntmps109
  go_wp2_with fail
  obtain ⟨W, hW⟩ : ∃ W, W = w.alloc (Obj.cells #[.slice (some ⟨g, 0, none⟩) xs.length cap, .int .i64 p] 178) := ⟨_, rfl⟩
  have hWs : W.heap.size = w.heap.size + 1 := by rw [hW]; simp
  have hW0 : W.cell? ⟨w.heap.size, 0, none⟩ = some (.slice (some ⟨g, 0, none⟩) xs.length cap) := by rw [hW]; simp [go_sem]
  have hW1 : W.cell? ⟨w.heap.size, 1, none⟩ = some (.int .i64 p) := by rw [hW]; simp [go_sem]
  have hWD : DgAt W g xs := by rw [hW]; exact HD.out.below ((Below.refl _ _).alloc (Nat.le_refl _) _)
  have hWB : Below w.heap.size w W := by rw [hW]; exact (Below.refl _ _).alloc (Nat.le_refl _) _
  rw [← hW]
  have HW := Lib.hid (And.intro hWs (And.intro hW0 (And.intro hW1 (And.intro hWD hWB))))
  clear hWs hW0 hW1 hWD hWB hW
  go_loopw [2, 8] (R1 xs p W) (fun _ i _ => p.toNat - (intOf i).toNat)
  case atStart => exact ⟨0, by omega, rfl, rfl, Below.refl _ _⟩
  case round =>
    obtain ⟨k, hk, rfl, rfl, hb⟩ := hrel
    have hwh := whS_le xs k
    by_cases hkp : (k : Int) < p
    · have hd9 := digAt_le hx (k : Int)
      have hsz := hb.size
      have c0 : wr.cell? ⟨w.heap.size, 0, none⟩ = some (.slice (some ⟨g, 0, none⟩) xs.length cap) := by
        rw [(bcell hb).1 _ _ (by rw [HW.out.1]; omega)]; exact HW.out.2.1
      have c1 : wr.cell? ⟨w.heap.size, 1, none⟩ = some (.int .i64 p) := by
        rw [(bcell hb).1 _ _ (by rw [HW.out.1]; omega)]; exact HW.out.2.2.1
      have HDW := Lib.hid (HW.out.2.2.2.1.below hb)
      have HB := Lib.hid hb
      clear hb
      go_wp2_with fail
      refine (digit_any g cap p k xs wr HDW.out (by omega) (by omega) (by omega)).mono ?_
      rintro e w2 ⟨rfl, hb2⟩
      have HB2 := Lib.hid (bthen HB.out hb2)
      clear hb2
      go_wp2_with fail
      go_roundw
      case rel => exact ⟨k + 1, by omega, by go_num, by simp only [whS]; go_num, HB2.out⟩
      case measure => simp [intOf]; omega
    · have HK := Lib.hid (show k = p.toNat by omega)
      have hkb : decide ((k : Int) < p) = false := by simp; omega
      clear hk
      have hsz := hb.size
      have c0 : wr.cell? ⟨w.heap.size, 0, none⟩ = some (.slice (some ⟨g, 0, none⟩) xs.length cap) := by
        rw [(bcell hb).1 _ _ (by rw [HW.out.1]; omega)]; exact HW.out.2.1
      have c1 : wr.cell? ⟨w.heap.size, 1, none⟩ = some (.int .i64 p) := by
        rw [(bcell hb).1 _ _ (by rw [HW.out.1]; omega)]; exact HW.out.2.2.1
      have HB := Lib.hid hb
      obtain ⟨N, hN⟩ : ∃ N, whS xs k = N := ⟨_, rfl⟩
      rw [hN] at hwh ⊢
      have HN : Hid (whS xs p.toNat = N) := by have := HK.out; subst this; exact hN
      clear hb hN
      go_wp2_with fail
      go_loopw [4, 5] (R2 xs p (w.heap.size + 1) W) (fun _ i _ => ((xs.length : Int) - intOf i).toNat)
      case atStart => exact ⟨0, _, rfl, by omega, by simp, World.ownsRow_nil _ _ _ _, HB.out⟩
      case round =>
        obtain ⟨j, v, rfl, hj, rfl, ho, hb⟩ := hrel
        clear c0 c1 hsz HB
        have hsz2 := hb.size
        have c0 : wr.cell? ⟨w.heap.size, 0, none⟩ = some (.slice (some ⟨g, 0, none⟩) xs.length cap) := by
          rw [(bcell hb).1 _ _ (by rw [HW.out.1]; omega)]; exact HW.out.2.1
        have c1 : wr.cell? ⟨w.heap.size, 1, none⟩ = some (.int .i64 p) := by
          rw [(bcell hb).1 _ _ (by rw [HW.out.1]; omega)]; exact HW.out.2.2.1
        by_cases hjl : p + (j : Int) < (xs.length : Int)
        · have hd9 := digAt_le hx (p + (j : Int))
          have HDW := Lib.hid (HW.out.2.2.2.1.below hb)
          have HB := Lib.hid hb
          have HO := Lib.hid ho
          clear hb ho
          go_wp2_with fail
          refine (digit_any g cap p (p + (j : Int)) xs wr HDW.out (by omega) (by omega) (by omega)).mono ?_
          rintro e w2 ⟨rfl, hb2⟩
          obtain ⟨x, hxd⟩ : ∃ x : Nat, digAt xs (p + (j : Int)) = x := ⟨_, rfl⟩
          rw [hxd] at hd9 ⊢
          have HX := Lib.hid hxd
          have HB2 := Lib.hid (bthen HB.out hb2)
          have HO2 : Hid (w2.ownsRow (w.heap.size + 1) 5 1 v j (u8s (fromP xs p j))) := HO.out.kept (row := none) ⟨hb2.os, hb2.tape, hb2.output, hb2.size, fun k hk _ => hb2.block k hk⟩ (by cases v.ownBlock <;> simp)
          obtain ⟨i0, hi, hz0, hz1, hz2⟩ := info_parts u8_info
          have HI := Lib.hid (And.intro hi (And.intro hz0 (And.intro hz1 hz2)))
          have hs2 := HB2.out.size
          clear hb2 hxd hi hz0 hz1 hz2
          go_wp2_with (at_builtin; refine wpList_append_own _ rfl (.tmp 29) (.tmp 33) 35 rfl (w.heap.size + 1) 5 i0 (.int .u8 0) 1 1 Tryz.underlying35 HI.out.1 HI.out.2.1 HI.out.2.2.1 HI.out.2.2.2 rfl (by decide) v j (u8s (fromP xs p j)) rfl (HO2.out.alloc _) ⟨w2.heap.size, 0, none⟩ 1 1 [.int .u8 (x : Int)] rfl rfl (src_one _ _ _) (one_u8 _) (by unfold maxLen; omega) (by omega) (by have := HW.out.1; simp; omega) ?_)
          intro v2 w3 hown hgr _
          rw [← HX.out, fromP_push] at hown
          have hbel : Below W.heap.size W w3 := (HB2.out.alloc HB2.out.size _).grown hgr (by have := HB2.out.size; simp; omega) (fun k hk => by have := (HO2.out.lt k hk).1; have := HW.out.1; omega)
          have HO3 := Lib.hid hown
          have HB3 := Lib.hid hbel
          clear hown hgr hbel
          go_wp2_with fail
          go_roundw
          case rel =>
            exact ⟨j + 1, _, rfl, by omega, by go_num, HO3.out, HB3.out⟩
          case measure => simp [intOf]; omega
        · obtain ⟨F, hF⟩ : ∃ F, F = fracP xs p := ⟨_, rfl⟩
          have hjm : j = ((xs.length : Int) - p).toNat := by omega
          have hFj : fromP xs p j = F := by rw [hF, hjm]; rfl
          have hFd : digs F := by rw [hF]; exact fromP_digs hx _ _
          have hFl : F.length = j := by rw [← hFj]; exact fromP_len _ _ _
          have hFl2 : F.length ≤ 2100 := by omega
          rw [hFj, ← hFl] at ho
          have HF := Lib.hid hF
          have HO := Lib.hid ho
          have HB := Lib.hid (HW.out.2.2.2.2.trans (hb.mono (by have := HW.out.1; omega)))
          clear hb ho hF hjm hFj hFl hj
          go_wp2_with fail
          go_loopw [2, 35] (R3 N F v (w.heap.size + 1) w) (fun _ i _ => 16 - (intOf i).toNat)
          case atStart => exact ⟨0, by omega, rfl, by simp [dbls], HO.out, HB.out⟩
          case round =>
            clear c0 c1 hsz2 HO HB
            obtain ⟨k, hk, rfl, rfl, ho, hb⟩ := hrel
            have hbd := dbls_bd k F hFd
            have hk2 : 2 ^ k ≤ 2 ^ 16 := Nat.pow_le_pow_right (by omega) hk
            have hNk : N * 2 ^ k ≤ 4294967296 * 65536 := Nat.mul_le_mul hwh hk2
            obtain ⟨M, hM⟩ : ∃ M : Nat, N * 2 ^ k + (dbls k F).2 = M := ⟨_, rfl⟩
            have hMb : M ≤ 4294967296 * 65536 + 65536 := by omega
            have hD := double_own (w.heap.size + 1) v (dbls k F).1 (dbls_digs k F hFd) (by rw [dbls_len]; omega) wr (by rw [dbls_len]; exact ho)
            have hc1 := dbl_carry (dbls k F).1 (dbls_digs k F hFd)
            have hvb : ∀ q, v.ownBlock = some q → w.heap.size ≤ q := fun q hq => by have := (ho.lt q hq).1; omega
            obtain ⟨c, hc⟩ : ∃ c, (dbl (dbls k F).1).2 = c := ⟨_, rfl⟩
            unfold DblPost at hD
            rw [hc] at hD hc1
            rw [hM]
            have HD2 := Lib.hid hD
            have HM := Lib.hid hM
            have HC := Lib.hid hc
            have HB := Lib.hid hb
            have HV := Lib.hid hvb
            clear hD hM hc hb hvb ho hNk hbd hk2
            by_cases hk16 : k < 16
            · go_wp2_with fail
              refine HD2.out.mono ?_
              rintro e w4 ⟨rfl, ho4, hg4⟩
              rw [dbls_len] at ho4
              have HO4 := Lib.hid ho4
              have HB4 := Lib.hid (HB.out.grown hg4 HB.out.size (fun q hq => HV.out q hq))
              clear ho4 hg4
              go_wp2_with fail
              go_roundw
              case rel =>
                refine ⟨k + 1, by omega, by go_num, ?_, HO4.out, HB4.out⟩
                have e1 : N * 2 ^ (k + 1) + (dbls (k + 1) F).2 = M * 2 + c := by
                  simp only [dbls]; rw [HC.out, Nat.pow_succ, ← Nat.mul_assoc, ← HM.out]; omega
                rw [e1]; go_num
              case measure => simp [intOf]; omega
            · obtain rfl : k = 16 := by omega
              have hfin : rndD xs p = M + c := by
                unfold rndD; rw [HN.out, ← HF.out, HC.out, ← HM.out]
              have HFin := Lib.hid hfin
              clear hfin
              go_wp2_with fail
              refine HD2.out.mono ?_
              rintro e w4 ⟨rfl, ho4, hg4⟩
              have HB4 := Lib.hid (HB.out.grown hg4 HB.out.size (fun q hq => HV.out q hq))
              clear ho4 hg4
              go_wp2_with fail
              go_ret
              exact ⟨ret_int (by rw [HFin.out]; omega), HB4.out⟩
end Go.Proofs.YtfilbfenpdaahaaGreatDoor
namespace Go.Proofs.YtfilbfenpdaahaaGreatDoor
open Go.RowKit
open Fx Dc
namespace Dc
def csB (l : List UInt8) : Bool := Lib.hasPrefix l [45]
def csL (l : List UInt8) : List UInt8 := if csB l = true then Lib.trimPrefix l [45] else Lib.trimPrefix l [43]
/-- digits alone -/
def allDig (l : List UInt8) : Prop := ∀ c ∈ l, isDig c
end Dc
def StrBool (l : List UInt8) (b : Bool) (w : World) (e : Ending) (w' : World) : Prop := ∃ s : ByteArray, e = .returned (.tuple #[.string s, .bool b]) ∧ s.data.toList = l ∧ w = w'
theorem cutSign_any (s : ByteArray) (w : World) : Calls Tryz.prog 105 #[.string s] w (StrBool (csL s.data.toList) (csB s.data.toList) w) := by
  have H1 := Lib.hid (fun w => Tryz.strings_CutPrefix s ⟨#[45]⟩ w)
  have H2 := Lib.hid (fun w => Tryz.strings_TrimPrefix s ⟨#[43]⟩ w)
  unfold csL
  cases hb : csB s.data.toList
  · have HB : Hid (Lib.hasPrefix s.data.toList (⟨#[45]⟩ : ByteArray).data.toList = false) := hb
    rw [if_neg (by simp)]
    clear hb
    go_enter Tryz.func105, Tryz.ntmps105
    go_wp2_with fail
    refine (H1.out _).mono ?_; rintro e w' ⟨rfl, rfl⟩
    rw [HB.out]
    go_wp2_with fail
    refine (H2.out _).mono ?_; rintro e w' ⟨rfl, rfl⟩
    go_wp2_with fail
    go_ret2
    exact ⟨_, rfl, rfl, rfl⟩
  · have HB : Hid (Lib.hasPrefix s.data.toList (⟨#[45]⟩ : ByteArray).data.toList = true) := hb
    rw [if_pos rfl]
    clear hb
    go_enter Tryz.func105, Tryz.ntmps105
    go_wp2_with fail
    refine (H1.out _).mono ?_; rintro e w' ⟨rfl, rfl⟩
    rw [HB.out]
    go_wp2_with fail
    go_ret2
    exact ⟨_, rfl, rfl, rfl⟩
/-- bytes of a row, the first k of them made digits -/
def MixAt (w : World) (G : Nat) (L : List UInt8) (k : Nat) : Prop :=
  ∀ (j : Nat) (c : UInt8), L[j]? = some c → w.cell? ⟨G, j, none⟩ = some (.int .u8 (if j < k then (c.toNat : Int) - 48 else (c.toNat : Int))) ∧ w.frozen? ⟨G, j, none⟩ = false
theorem bytes_made (W : World) (s : ByteArray) : ∃ (cap : Nat) (W2 : World), (convert 9 35 (.string s)).run Tryz.prog W = .ok (.slice (some ⟨W.heap.size, 0, none⟩) s.size cap) W2 ∧
    Below W.heap.size W W2 ∧ W2.heap.size = W.heap.size + 1 ∧ MixAt W2 W.heap.size s.data.toList 0 := by
  refine ⟨_, _, run_bytes_of_string W 9 35 5 s Tryz.underlying9 Tryz.underlying35 Tryz.underlying5, ?_, by simp, ?_⟩
  · exact (Below.refl _ W).drew.alloc (Nat.le_refl _) _
  · intro j c hc
    have hj : j < s.data.size := by
      obtain ⟨h1, _⟩ := List.getElem?_eq_some_iff.1 hc
      simpa using h1
    have hs : W.drew.heap.size = W.heap.size := rfl
    constructor
    · rw [← hs, World.cell?_alloc_mark, bytesRow_at s _ j hj]
      have : s.data[j] = c := by
        obtain ⟨h1, h2⟩ := List.getElem?_eq_some_iff.1 hc
        simpa using h2
      simp [this]
    · rw [← hs, World.frozen?_alloc_mark]
      have : j < (bytesRow s (grownCap W s.size 0 5)).size := by
        have h1 : s.size = s.data.size := rfl
        have h2 := grownCap_ge W s.size 0 5
        unfold bytesRow; rw [Array.size_append, Array.size_map, Array.size_replicate]; omega
      simp; omega
theorem MixAt.keep {w w' : World} {G k : Nat} {L : List UInt8} (h : MixAt w G L k) (hc : ∀ o, w'.cell? ⟨G, o, none⟩ = w.cell? ⟨G, o, none⟩) (hf : ∀ o, w'.frozen? ⟨G, o, none⟩ = w.frozen? ⟨G, o, none⟩) : MixAt w' G L k :=
  fun j c hj => by rw [hc, hf]; exact h j c hj
theorem addr_ne (b i j : Nat) (h : i ≠ j) : (⟨b, i, none⟩ : Addr) ≠ ⟨b, j, none⟩ := by intro e; injection e; contradiction
theorem MixAt.step {w : World} {G k : Nat} {L : List UInt8} {c : UInt8} (h : MixAt w G L k) (hk : L[k]? = some c) : MixAt (w.setCell ⟨G, k, none⟩ (.int .u8 ((c.toNat : Int) - 48))) G L (k + 1) := by
  intro j d hj
  obtain ⟨h1, h2⟩ := h j d hj
  refine ⟨?_, by rw [World.frozen?_setCell]; exact h2⟩
  by_cases e : j = k
  · subst e
    obtain rfl : c = d := Option.some.inj (hk.symm.trans hj)
    rw [World.cell?_setCell_same _ _ _ h1, if_pos (by omega)]
  · rw [World.cell?_setCell_other _ _ _ _ (addr_ne G k j (Ne.symm e)), h1]
    by_cases e2 : j < k
    · rw [if_pos e2, if_pos (by omega)]
    · rw [if_neg e2, if_neg (by omega)]
theorem DgAt.far {w : World} {g : Nat} {xs : List Nat} (h : DgAt w g xs) {p : Addr} (hp : p.block ≠ g) (u : Value) : DgAt (w.setCell p u) g xs :=
  ⟨by simpa using h.1, fun k x hx => by rw [World.cell?_setCell_other _ _ _ _ (by intro e; apply hp; rw [e])]; exact h.2 k x hx⟩
/-- what readDecimal's loop holds -/
def RdcRel (w : World) (G : Nat) (L : List UInt8) (n cap : Nat) (p : Int) (i : Value) (w' : World) : Prop :=
  ∃ k : Nat, k ≤ n ∧ i = .int .i64 (k : Int) ∧ (∀ (j : Nat) (c : UInt8), j < k → L[j]? = some c → isDig c) ∧ MixAt w' G L k ∧ G < w'.heap.size ∧
    w'.cell? ⟨w.heap.size, 0, none⟩ = some (.slice (some ⟨G, 0, none⟩) n cap) ∧ w'.cell? ⟨w.heap.size, 1, none⟩ = some (.int .i64 p) ∧
    w'.frozen? ⟨w.heap.size, 0, none⟩ = false ∧ w'.frozen? ⟨w.heap.size, 1, none⟩ = false ∧ Below w.heap.size w w'
def digits (L : List UInt8) : List Nat := L.map fun (c : UInt8) => c.toNat - 48
/-- what readDecimal answers of bytes L, p of them ahead of the point -/
def RdcPost (L : List UInt8) (p : Int) (w : World) (e : Ending) (w' : World) : Prop :=
  (∃ g cap : Nat, e = .returned (.tuple #[.agg #[.slice (some ⟨g, 0, none⟩) L.length cap, .int .i64 p], .bool (decide (0 < L.length))]) ∧ DgAt w' g (digits L) ∧ allDig L ∧ Below w.heap.size w w') ∨
  (e = .returned (.tuple #[.agg #[.slice none 0 0, .int .i64 0], .bool false]) ∧ ¬ allDig L ∧ Below w.heap.size w w')
theorem readDecimal_any (s a b : ByteArray) (f : Bool) (hs : s.size ≤ 64) (ha : a.size ≤ 64) (hb : b.size ≤ 64) (w : World) (hm : Mx w) (hcut : Lib.cut s.data.toList [46] = (a.data.toList, b.data.toList, f)) :
    Calls Tryz.prog 108 #[.string s] w (RdcPost (a ++ b).data.toList a.size w) := by
  have HC : Hid (∀ w, Mx w → Calls Tryz.prog 85 #[.string s, .string ⟨#[46]⟩] w fun e w' => e = .returned (.tuple #[.string a, .string b, .bool f]) ∧ ∃ n, w' = w.drewN n) := by
    intro w hm
    have := cut_any s 46 (by omega) w hm
    rw [hcut] at this
    exact this
  have HM := Lib.hid (hm.below ((Below.refl _ w).alloc (Nat.le_refl _) (Obj.cells #[Value.slice none 0 0, Value.int .i64 0] 178)))
  obtain ⟨T, hT⟩ : ∃ T, T = a ++ b := ⟨_, rfl⟩
  have hTs : T.size ≤ 128 := by rw [hT, size_app]; omega
  rw [← hT]
  clear hcut hm
  go_enter Tryz.func108, Tryz.ntmps108
  go_wp2_with fail
  refine (HC.out _ HM.out).mono ?_; rintro e w' ⟨rfl, q, rfl⟩
  obtain ⟨W, hW⟩ : ∃ W, W = (w.alloc (Obj.cells #[Value.slice none 0 0, Value.int .i64 0] 178)).drewN q := ⟨_, rfl⟩
  obtain ⟨cap, W2, hrun, hb2, hsz2, hmix⟩ := bytes_made W T
  have hWs : W.heap.size = w.heap.size + 1 := by rw [hW]; simp
  rw [hWs] at hrun hmix hsz2
  rw [hW] at hrun
  have c0 : W2.cell? ⟨w.heap.size, 0, none⟩ = some (.slice none 0 0) := by rw [(bcell hb2).1 _ _ (by rw [hWs]; omega), hW]; simp [go_sem]
  have c1 : W2.cell? ⟨w.heap.size, 1, none⟩ = some (.int .i64 0) := by rw [(bcell hb2).1 _ _ (by rw [hWs]; omega), hW]; simp [go_sem]
  have f0 : ∀ o, W2.frozen? ⟨w.heap.size, o, none⟩ = false := fun o => by rw [(bcell hb2).2 _ _ (by rw [hWs]; omega), hW]; simp [go_sem]
  have HB : Hid (Below w.heap.size w W2) := by
    rw [hW] at hb2; exact below_made w _ q hb2
  obtain ⟨n, hn⟩ : ∃ n, n = T.size := ⟨_, rfl⟩
  have hn1 : n ≤ 128 := by omega
  have HL : Hid (T.data.toList.length = n) := by rw [hn]; exact (size_list T).symm
  rw [← hn, hT] at hrun
  have HMix := Lib.hid hmix
  have HT := Lib.hid hT
  have HS := Lib.hid hsz2
  clear hb2 hsz2 hmix hWs hT
  rw [← hW]
  rw [← hW] at hrun
  clear hW hn
  go_wp2_with fail
  go_loopw [25] (RdcRel w (w.heap.size + 1) T.data.toList n cap a.size) (fun i _ => n - (intOf i).toNat)
  case atStart =>
    refine ⟨0, by omega, rfl, fun j c h => absurd h (by omega), ?_, by simp [HS.out], ?_, ?_, by simp [f0], by simp [f0], (HB.out.setCell (Nat.le_refl _) _).setCell (Nat.le_refl _) _⟩
    · exact HMix.out.keep (fun o => by rw [World.cell?_setCell_other _ _ _ _ (by intro e; injection e; omega), World.cell?_setCell_other _ _ _ _ (by intro e; injection e; omega)]) (fun o => by simp)
    · rw [World.cell?_setCell_other _ _ _ _ (by intro e; injection e; omega), World.cell?_setCell_same _ _ _ c0]
    · rw [World.cell?_setCell_same (u := .int .i64 0)]
      rw [World.cell?_setCell_other _ _ _ _ (by intro e; injection e; omega)]; exact c1
  case round =>
    obtain ⟨k, hk, rfl, hdig, hmx, hGs, d0, d1, g0, g1, hbel⟩ := hrel
    clear c0 c1 f0 hrun HMix HB HS
    by_cases hkn : k < n
    · obtain ⟨c, hc⟩ : ∃ c, T.data.toList[k]? = some c := ⟨_, List.getElem?_eq_getElem (by rw [HL.out]; exact hkn)⟩
      have hcc := (hmx k c hc).1
      have hcf := (hmx k c hc).2
      rw [if_neg (by omega)] at hcc
      have hcb : (c.toNat : Int) ≤ 255 := by have := UInt8.toNat_lt c; omega
      obtain ⟨z, hz⟩ : ∃ z : Int, z = (c.toNat : Int) := ⟨_, rfl⟩
      rw [← hz] at hcc hcb
      by_cases h1 : z < 48
      · have hno : ¬ allDig T.data.toList := fun h => by
          have := h c (List.mem_of_getElem? hc); unfold isDig at this; omega
        have HNo := Lib.hid hno
        have HBl := Lib.hid hbel
        clear hmx hdig hbel hz hc hno
        go_wp2_with fail
        refine bodyPost_ret (v := .tuple #[.agg #[.slice none 0 0, .int .i64 0], .bool false]) (by simp [results, Tryz.results108, go_sem, d0, d1]) rfl (Or.inr ⟨rfl, HNo.out, ?_⟩)
        exact (HBl.out.setCell (Nat.le_refl _) _).setCell (Nat.le_refl _) _
      · by_cases h2 : 57 < z
        · have hno : ¬ allDig T.data.toList := fun h => by
            have := h c (List.mem_of_getElem? hc); unfold isDig at this; omega
          have HNo := Lib.hid hno
          have HBl := Lib.hid hbel
          clear hmx hdig hbel hz hc hno
          go_wp2_with fail
          refine bodyPost_ret (v := .tuple #[.agg #[.slice none 0 0, .int .i64 0], .bool false]) (by simp [results, Tryz.results108, go_sem, d0, d1]) rfl (Or.inr ⟨rfl, HNo.out, ?_⟩)
          exact (HBl.out.setCell (Nat.le_refl _) _).setCell (Nat.le_refl _) _
        · have HMx := Lib.hid hmx
          have HDg := Lib.hid hdig
          have HBl := Lib.hid hbel
          have HZ := Lib.hid hz
          have HCk := Lib.hid hc
          have HD := Lib.hid (And.intro d0 (And.intro d1 (And.intro g0 g1)))
          clear hmx hdig hbel hz hc
          go_wp2_with fail
          refine ⟨⟨k + 1, by omega, by go_num, ?_, ?_, by simpa using hGs, ?_, ?_, by simpa using g0, by simpa using g1, HBl.out.setCell (by show w.heap.size ≤ w.heap.size + 1; omega) _⟩, by simp [intOf]; omega⟩
          · intro j d hj hd
            by_cases e : j = k
            · subst e
              obtain rfl : c = d := Option.some.inj (HCk.out.symm.trans hd)
              have := HZ.out; unfold isDig; omega
            · exact HDg.out j d (by omega) hd
          · rw [HZ.out]; exact HMx.out.step HCk.out
          · rw [World.cell?_setCell_other _ _ _ _ (by intro e; injection e; omega)]; exact HD.out.1
          · rw [World.cell?_setCell_other _ _ _ _ (by intro e; injection e; omega)]; exact HD.out.2.1
    · obtain rfl : k = n := by omega
      have hall : allDig T.data.toList := by
        intro c hc
        obtain ⟨j, hj⟩ := List.getElem?_of_mem hc
        have hjl : j < T.data.toList.length := (List.getElem?_eq_some_iff.1 hj).1
        exact hdig j c (by rw [HL.out] at hjl; exact hjl) hj
      have hdg : DgAt wr (w.heap.size + 1) (digits T.data.toList) := by
        refine ⟨hGs, fun j x hj => ?_⟩
        unfold digits at hj
        rw [List.getElem?_map] at hj
        obtain ⟨c, hc, rfl⟩ := Option.map_eq_some_iff.1 hj
        have hjl : j < T.data.toList.length := (List.getElem?_eq_some_iff.1 hc).1
        rw [(hmx j c hc).1, if_pos (by rw [HL.out] at hjl; exact hjl)]
        have hd := hall c (List.mem_of_getElem? hc)
        unfold isDig at hd
        have e : ((c.toNat - 48 : Nat) : Int) = (c.toNat : Int) - 48 := by omega
        rw [e]
      have HA := Lib.hid (And.intro hall (And.intro hdg hbel))
      clear hall hdg hmx hdig hbel
      go_wp2_with fail
      refine bodyPost_ret (v := .tuple #[.agg #[.slice (some ⟨w.heap.size + 1, 0, none⟩) k cap, .int .i64 a.size], .bool (decide (0 < k))]) (by simp [results, Tryz.results108, go_sem, d0, d1]) rfl (Or.inl ⟨w.heap.size + 1, cap, ?_, ?_, HA.out.1, ?_⟩)
      · rw [HL.out]
      · exact (HA.out.2.1.far (by show w.heap.size ≠ _; omega) _).far (by show w.heap.size ≠ _; omega) _
      · exact (HA.out.2.2.setCell (Nat.le_refl _) _).setCell (Nat.le_refl _) _
end Go.Proofs.YtfilbfenpdaahaaGreatDoor
