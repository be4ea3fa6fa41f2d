/-
  Parts, by a contract: Part.
-/
import Derived.Test.YtfilbfenpdaahaaGreatDoorStoOps
import Derived.Test.YtfilbfenpdaahaaGreatDoorStoMk
namespace Go.Proofs.YtfilbfenpdaahaaGreatDoor
open Go.RowKit
open St
def partR (G : List (Th × Lay)) (o : Ob) (f n : Int) : Ob × Int := if tld G o 6 = none ∧ tld G o 7 = none then (nul, 21) else if liesB f n o.len = true then (prt o f n, 0) else (nul, 11)
/-- an object and an error, answered -/
def ObE (r : Ob × Int) (w : World) (e : Ending) (w' : World) : Prop := e = .returned (.tuple #[r.1.val, .int .i64 r.2]) ∧ Below w.heap.size w w'
theorem cellsOb {w : World} {B : Nat} {v0 v1 v2 v3 v4 v5 v6 v7 : Value} {t : TypeId} (h : w.heap[B]? = some (.cells #[v0, v1, v2, v3, v4, v5, v6, v7] t (0, 0))) : w.cell? ⟨B, 0, none⟩ = some v0 ∧ w.cell? ⟨B, 1, none⟩ = some v1 ∧ w.cell? ⟨B, 2, none⟩ = some v2 ∧ w.cell? ⟨B, 3, none⟩ = some v3 ∧ w.cell? ⟨B, 4, none⟩ = some v4 ∧ w.cell? ⟨B, 5, none⟩ = some v5 ∧ w.cell? ⟨B, 6, none⟩ = some v6 ∧ w.cell? ⟨B, 7, none⟩ = some v7 :=
  ⟨blk_cell h 0, blk_cell h 1, blk_cell h 2, blk_cell h 3, blk_cell h 4, blk_cell h 5, blk_cell h 6, blk_cell h 7⟩
theorem items_len7 {x : Th} (h : x.kind = 7) : x.length = x.items.length := by unfold Th.length; rw [if_neg (by omega), if_pos h]
theorem below_set {B : Nat} {w w' : World} (h : Below B w w') {a : Addr} (ha : B ≤ a.block) (v : Value) : Below B w (w'.setCell a v) := h.setCell ha v
theorem below_put8 {B b : Nat} {w w3 w4 : World} {t : TypeId} {v0 v1 v2 v3 v4 v5 v6 v7 : Value} (h : Below B w w3) (hb : B ≤ b) (hp : Put8 w3 b t v0 v1 v2 v3 v4 v5 v6 v7 w4) : Below B w w4 :=
  h.trans ⟨hp.os, hp.tape, hp.output, by rw [hp.size]; exact Nat.le_refl _, fun k hk => hp.far k (by omega)⟩
theorem tld_bounds {O : Nat → Prop} {w : World} {s : Nat} {fr k : Int} {G : List (Th × Lay)} {o : Ob} {i : Nat} (h : Rep O w s fr G) (ht : tld G o k = some i) : 0 ≤ o.frm ∧ 0 ≤ o.len ∧ o.frm + o.len ≤ 65535 ∧ ∃ x, G[i]? = some x ∧ x.1.kind = k ∧ o.frm + o.len ≤ x.1.length ∧ x.1.length ≤ 65535 := by
  obtain ⟨_, _, x, hx, hk, hl⟩ := tld_some ht
  have hr := h.row i x hx
  have hL := length_le hr.nb hr.ni
  have := liesB_iff.1 hl
  exact ⟨by omega, by omega, by omega, x, hx, hk, by omega, hL⟩
set_option maxRecDepth 100000 in
set_option maxHeartbeats 8000000 in
theorem part_at {O : Nat → Prop} {w : World} {s : Nat} {fr : Int} {G : List (Th × Lay)} (h : Rep O w s fr G) (o : Ob) (f m : Int) :
    Calls Tryz.prog 70 #[.pointer (some ⟨s, 0, none⟩), o.val, .int .i64 f, .int .i64 m] w (ObE (partR G o f m) w) := by
  have h2 := h.below (below2 w (obC o) (.cells zeroOb 27))
  obtain ⟨tv, hv⟩ := Rep.vw h2
  have HT6 := Lib.hid (told_rep h2 hv o 6)
  have HT7 := Lib.hid (fun w3 hb => told_rep (w := w3) (h2.below hb) (hv.below hb) o 7)
  have HBX := Lib.hid (show ∀ w3, Below ((w.alloc (obC o)).alloc (.cells zeroOb 27)).heap.size ((w.alloc (obC o)).alloc (.cells zeroOb 27)) w3 → w3.heap[w.heap.size]? = some (obC o) from fun w3 hb => (below_z hb).1)
  have HBZ := Lib.hid (show ∀ w3, Below ((w.alloc (obC o)).alloc (.cells zeroOb 27)).heap.size ((w.alloc (obC o)).alloc (.cells zeroOb 27)) w3 → w3.heap[w.heap.size + 1]? = some (.cells zeroOb 27 (0, 0)) from fun w3 hb => (below_z hb).2)
  have hbd : ∀ k i, tld G o k = some i → 0 ≤ o.frm ∧ 0 ≤ o.len ∧ o.frm + o.len ≤ 65535 := fun k i ht => by have := tld_bounds h ht; exact ⟨this.1, this.2.1, this.2.2.1⟩
  have hpr : partR G o f m = if tld G o 6 = none ∧ tld G o 7 = none then (nul, 21) else if liesB f m o.len = true then (prt o f m, 0) else (nul, 11) := rfl
  unfold ObE
  generalize partR G o f m = r at *
  generalize ht6 : tld G o 6 = t6 at *
  generalize ht7 : tld G o 7 = t7 at *
  clear h h2 hv
  cases t6 with
  | none =>
    cases t7 with
    | none =>
      simp only [and_self, if_true] at hpr
      subst hpr
      obtain ⟨kd, ex, ac, n, nm, rf, fm, ln⟩ := o
      simp only [thP, Option.map_none, obC, zeroOb, Ob.val] at HT6 HT7 HBX HBZ ⊢
      clear hbd ht7 ht6
      go_enter Tryz.func70, Tryz.ntmps70
      go_wp2_with fail
      refine HT6.out.mono ?_; rintro e w2 ⟨rfl, hb⟩
      have c := HBX.out w2 hb
      have q0 : w2.cell? ⟨w.heap.size, 0, none⟩ = some (.int .i64 kd) := blk_cell c 0
      have q1 : w2.cell? ⟨w.heap.size, 1, none⟩ = some (.bool ex) := blk_cell c 1
      have q2 : w2.cell? ⟨w.heap.size, 2, none⟩ = some (.int .i64 ac) := blk_cell c 2
      have q3 : w2.cell? ⟨w.heap.size, 3, none⟩ = some (.int .i64 n) := blk_cell c 3
      have q4 : w2.cell? ⟨w.heap.size, 4, none⟩ = some (.string nm) := blk_cell c 4
      have q5 : w2.cell? ⟨w.heap.size, 5, none⟩ = some (.int .i64 rf) := blk_cell c 5
      have q6 : w2.cell? ⟨w.heap.size, 6, none⟩ = some (.int .i64 fm) := blk_cell c 6
      have q7 : w2.cell? ⟨w.heap.size, 7, none⟩ = some (.int .i64 ln) := blk_cell c 7
      have HT := Lib.hid (HT7.out w2 hb)
      have HB2 := Lib.hid hb
      clear hb c HT7
      go_wp2_with fail
      refine HT.out.mono ?_; rintro e w3 ⟨rfl, hb3⟩
      have hbb := bthen HB2.out hb3
      have HB := Lib.hid (bthen (below2 w _ _) hbb)
      obtain ⟨d0, d1, d2, d3, d4, d5, d6, d7, df⟩ := box_cells (HBZ.out w3 hbb)
      have HZ := Lib.hid (HBZ.out w3 hbb)
      clear hb3 hbb q0 q1 q2 q3 q4 q5 q6 q7
      go_wp2_with fail
      have hp := put8 HZ.out (.int .i64 0) (.bool false) (.int .i64 0) (.int .i64 0) (.string ⟨#[]⟩) (.int .i64 0) (.int .i64 0) (.int .i64 0)
      exact bodyPost_ret (results_ob2 Tryz.results70 _ _ (w.heap.size + 1) rfl rfl hp.blk) rfl ⟨rfl, below_put8 HB.out (by omega) hp⟩
    | some i =>
      obtain ⟨b1, b2, b3⟩ := hbd 7 i ht7
      simp only [reduceCtorEq, and_false, if_false] at hpr
      obtain ⟨kd, ex, ac, n, nm, rf, fm, ln⟩ := o
      simp only at b1 b2 b3
      obtain ⟨L, rfl⟩ : ∃ L : Nat, ln = L := ⟨ln.toNat, by omega⟩
      have HLi := Lib.hid (fun w => lies_at f m L (by omega) w)
      simp only [thP, Option.map_none, Option.map_some, obC, zeroOb, Ob.val] at HT6 HT7 HBX HBZ hpr ⊢
      clear hbd ht7 ht6
      cases hl : liesB f m L with
      | false =>
        rw [hl] at HLi hpr
        simp only [Bool.false_eq_true, if_false] at hpr
        subst hpr
        clear hl
        go_enter Tryz.func70, Tryz.ntmps70
        go_wp2_with fail
        refine HT6.out.mono ?_; rintro e w2 ⟨rfl, hb⟩
        have c := HBX.out w2 hb
        have q0 : w2.cell? ⟨w.heap.size, 0, none⟩ = some (.int .i64 kd) := blk_cell c 0
        have q1 : w2.cell? ⟨w.heap.size, 1, none⟩ = some (.bool ex) := blk_cell c 1
        have q2 : w2.cell? ⟨w.heap.size, 2, none⟩ = some (.int .i64 ac) := blk_cell c 2
        have q3 : w2.cell? ⟨w.heap.size, 3, none⟩ = some (.int .i64 n) := blk_cell c 3
        have q4 : w2.cell? ⟨w.heap.size, 4, none⟩ = some (.string nm) := blk_cell c 4
        have q5 : w2.cell? ⟨w.heap.size, 5, none⟩ = some (.int .i64 rf) := blk_cell c 5
        have q6 : w2.cell? ⟨w.heap.size, 6, none⟩ = some (.int .i64 fm) := blk_cell c 6
        have q7 : w2.cell? ⟨w.heap.size, 7, none⟩ = some (.int .i64 (L : Int)) := blk_cell c 7
        have HT := Lib.hid (HT7.out w2 hb)
        have HB2 := Lib.hid hb
        clear hb c HT7
        go_wp2_with fail
        refine HT.out.mono ?_; rintro e w3 ⟨rfl, hb3⟩
        have hbb := bthen HB2.out hb3
        clear hb3 q0 q1 q2 q3 q4 q5 q6 q7
        have hb2 : w3.heap[w.heap.size]? = some (.cells #[.int .i64 kd, .bool ex, .int .i64 ac, .int .i64 n, .string nm, .int .i64 rf, .int .i64 fm, .int .i64 (L : Int)] 27 (0, 0)) := HBX.out w3 hbb
        have hb1 : w3.heap[w.heap.size + 1]? = some (.cells zeroOb 27 (0, 0)) := HBZ.out w3 hbb
        have HB := Lib.hid (show Below w.heap.size w w3 from bthen (below2 w _ _) hbb)
        have q0 : w3.cell? ⟨w.heap.size, 0, none⟩ = some (.int .i64 kd) := blk_cell hb2 0
        have q1 : w3.cell? ⟨w.heap.size, 1, none⟩ = some (.bool ex) := blk_cell hb2 1
        have q2 : w3.cell? ⟨w.heap.size, 2, none⟩ = some (.int .i64 ac) := blk_cell hb2 2
        have q3 : w3.cell? ⟨w.heap.size, 3, none⟩ = some (.int .i64 n) := blk_cell hb2 3
        have q4 : w3.cell? ⟨w.heap.size, 4, none⟩ = some (.string nm) := blk_cell hb2 4
        have q5 : w3.cell? ⟨w.heap.size, 5, none⟩ = some (.int .i64 rf) := blk_cell hb2 5
        have q6 : w3.cell? ⟨w.heap.size, 6, none⟩ = some (.int .i64 fm) := blk_cell hb2 6
        have q7 : w3.cell? ⟨w.heap.size, 7, none⟩ = some (.int .i64 (L : Int)) := blk_cell hb2 7
        have qf : ∀ o, w3.frozen? ⟨w.heap.size, o, none⟩ = false := blk_free hb2
        obtain ⟨d0, d1, d2, d3, d4, d5, d6, d7, df⟩ := box_cells hb1
        have HZ := Lib.hid hb1
        have HX := Lib.hid hb2
        clear hb1 hb2
        go_wp2_with fail
        refine (HLi.out _).mono ?_; rintro e w4 ⟨rfl, rfl⟩
        go_wp2_with fail
        have hp := put8 HZ.out (.int .i64 0) (.bool false) (.int .i64 0) (.int .i64 0) (.string ⟨#[]⟩) (.int .i64 0) (.int .i64 0) (.int .i64 0)
        exact bodyPost_ret (results_ob2 Tryz.results70 _ _ (w.heap.size + 1) rfl rfl hp.blk) rfl ⟨rfl, below_put8 HB.out (by omega) hp⟩
      | true =>
        have hlb := liesB_iff.1 hl
        rw [hl] at HLi hpr
        simp only [if_true] at hpr
        subst hpr
        clear hl
        go_enter Tryz.func70, Tryz.ntmps70
        go_wp2_with fail
        refine HT6.out.mono ?_; rintro e w2 ⟨rfl, hb⟩
        have c := HBX.out w2 hb
        have q0 : w2.cell? ⟨w.heap.size, 0, none⟩ = some (.int .i64 kd) := blk_cell c 0
        have q1 : w2.cell? ⟨w.heap.size, 1, none⟩ = some (.bool ex) := blk_cell c 1
        have q2 : w2.cell? ⟨w.heap.size, 2, none⟩ = some (.int .i64 ac) := blk_cell c 2
        have q3 : w2.cell? ⟨w.heap.size, 3, none⟩ = some (.int .i64 n) := blk_cell c 3
        have q4 : w2.cell? ⟨w.heap.size, 4, none⟩ = some (.string nm) := blk_cell c 4
        have q5 : w2.cell? ⟨w.heap.size, 5, none⟩ = some (.int .i64 rf) := blk_cell c 5
        have q6 : w2.cell? ⟨w.heap.size, 6, none⟩ = some (.int .i64 fm) := blk_cell c 6
        have q7 : w2.cell? ⟨w.heap.size, 7, none⟩ = some (.int .i64 (L : Int)) := blk_cell c 7
        have HT := Lib.hid (HT7.out w2 hb)
        have HB2 := Lib.hid hb
        clear hb c HT7
        go_wp2_with fail
        refine HT.out.mono ?_; rintro e w3 ⟨rfl, hb3⟩
        have hbb := bthen HB2.out hb3
        clear hb3 q0 q1 q2 q3 q4 q5 q6 q7
        have hb2 : w3.heap[w.heap.size]? = some (.cells #[.int .i64 kd, .bool ex, .int .i64 ac, .int .i64 n, .string nm, .int .i64 rf, .int .i64 fm, .int .i64 (L : Int)] 27 (0, 0)) := HBX.out w3 hbb
        have hb1 : w3.heap[w.heap.size + 1]? = some (.cells zeroOb 27 (0, 0)) := HBZ.out w3 hbb
        have HB := Lib.hid (show Below w.heap.size w w3 from bthen (below2 w _ _) hbb)
        have q0 : w3.cell? ⟨w.heap.size, 0, none⟩ = some (.int .i64 kd) := blk_cell hb2 0
        have q1 : w3.cell? ⟨w.heap.size, 1, none⟩ = some (.bool ex) := blk_cell hb2 1
        have q2 : w3.cell? ⟨w.heap.size, 2, none⟩ = some (.int .i64 ac) := blk_cell hb2 2
        have q3 : w3.cell? ⟨w.heap.size, 3, none⟩ = some (.int .i64 n) := blk_cell hb2 3
        have q4 : w3.cell? ⟨w.heap.size, 4, none⟩ = some (.string nm) := blk_cell hb2 4
        have q5 : w3.cell? ⟨w.heap.size, 5, none⟩ = some (.int .i64 rf) := blk_cell hb2 5
        have q6 : w3.cell? ⟨w.heap.size, 6, none⟩ = some (.int .i64 fm) := blk_cell hb2 6
        have q7 : w3.cell? ⟨w.heap.size, 7, none⟩ = some (.int .i64 (L : Int)) := blk_cell hb2 7
        have qf : ∀ o, w3.frozen? ⟨w.heap.size, o, none⟩ = false := blk_free hb2
        obtain ⟨d0, d1, d2, d3, d4, d5, d6, d7, df⟩ := box_cells hb1
        have HZ := Lib.hid hb1
        have HX := Lib.hid hb2
        clear hb1 hb2
        go_wp2_with fail
        refine (HLi.out _).mono ?_; rintro e w4 ⟨rfl, rfl⟩
        go_wp2_with fail
        have hz2 : ((w4.setCell ⟨w.heap.size, 6, none⟩ (.int .i64 (fm + f))).setCell ⟨w.heap.size, 7, none⟩ (.int .i64 m)).heap[w.heap.size + 1]? = some (.cells zeroOb 27 (0, 0)) := by rw [blk_far (by omega), blk_far (by omega)]; exact HZ.out
        have hp := put8 hz2 (.int .i64 kd) (.bool ex) (.int .i64 ac) (.int .i64 n) (.string nm) (.int .i64 rf) (.int .i64 (fm + f)) (.int .i64 m)
        exact bodyPost_ret (results_ob2 Tryz.results70 _ _ (w.heap.size + 1) rfl rfl hp.blk) rfl ⟨rfl, below_put8 (below_set (below_set HB.out (by simp) _) (by simp) _) (by omega) hp⟩
  | some i =>
    obtain ⟨b1, b2, b3⟩ := hbd 6 i ht6
    simp only [reduceCtorEq, false_and, if_false] at hpr
    obtain ⟨kd, ex, ac, n, nm, rf, fm, ln⟩ := o
    simp only at b1 b2 b3
    obtain ⟨L, rfl⟩ : ∃ L : Nat, ln = L := ⟨ln.toNat, by omega⟩
    have HLi := Lib.hid (fun w => lies_at f m L (by omega) w)
    simp only [thP, Option.map_some, obC, zeroOb, Ob.val] at HT6 HT7 HBX HBZ hpr ⊢
    clear hbd ht7 ht6 HT7
    cases hl : liesB f m L with
    | false =>
      rw [hl] at HLi hpr
      simp only [Bool.false_eq_true, if_false] at hpr
      subst hpr
      clear hl
      go_enter Tryz.func70, Tryz.ntmps70
      go_wp2_with fail
      refine HT6.out.mono ?_; rintro e w3 ⟨rfl, hbb⟩
      have hb2 : w3.heap[w.heap.size]? = some (.cells #[.int .i64 kd, .bool ex, .int .i64 ac, .int .i64 n, .string nm, .int .i64 rf, .int .i64 fm, .int .i64 (L : Int)] 27 (0, 0)) := HBX.out w3 hbb
      have hb1 : w3.heap[w.heap.size + 1]? = some (.cells zeroOb 27 (0, 0)) := HBZ.out w3 hbb
      have HB := Lib.hid (show Below w.heap.size w w3 from bthen (below2 w _ _) hbb)
      have q0 : w3.cell? ⟨w.heap.size, 0, none⟩ = some (.int .i64 kd) := blk_cell hb2 0
      have q1 : w3.cell? ⟨w.heap.size, 1, none⟩ = some (.bool ex) := blk_cell hb2 1
      have q2 : w3.cell? ⟨w.heap.size, 2, none⟩ = some (.int .i64 ac) := blk_cell hb2 2
      have q3 : w3.cell? ⟨w.heap.size, 3, none⟩ = some (.int .i64 n) := blk_cell hb2 3
      have q4 : w3.cell? ⟨w.heap.size, 4, none⟩ = some (.string nm) := blk_cell hb2 4
      have q5 : w3.cell? ⟨w.heap.size, 5, none⟩ = some (.int .i64 rf) := blk_cell hb2 5
      have q6 : w3.cell? ⟨w.heap.size, 6, none⟩ = some (.int .i64 fm) := blk_cell hb2 6
      have q7 : w3.cell? ⟨w.heap.size, 7, none⟩ = some (.int .i64 (L : Int)) := blk_cell hb2 7
      have qf : ∀ o, w3.frozen? ⟨w.heap.size, o, none⟩ = false := blk_free hb2
      obtain ⟨d0, d1, d2, d3, d4, d5, d6, d7, df⟩ := box_cells hb1
      have HZ := Lib.hid hb1
      have HX := Lib.hid hb2
      clear hb1 hb2
      go_wp2_with fail
      refine (HLi.out _).mono ?_; rintro e w4 ⟨rfl, rfl⟩
      go_wp2_with fail
      have hp := put8 HZ.out (.int .i64 0) (.bool false) (.int .i64 0) (.int .i64 0) (.string ⟨#[]⟩) (.int .i64 0) (.int .i64 0) (.int .i64 0)
      exact bodyPost_ret (results_ob2 Tryz.results70 _ _ (w.heap.size + 1) rfl rfl hp.blk) rfl ⟨rfl, below_put8 HB.out (by omega) hp⟩
    | true =>
      have hlb := liesB_iff.1 hl
      rw [hl] at HLi hpr
      simp only [if_true] at hpr
      subst hpr
      clear hl
      go_enter Tryz.func70, Tryz.ntmps70
      go_wp2_with fail
      refine HT6.out.mono ?_; rintro e w3 ⟨rfl, hbb⟩
      have hb2 : w3.heap[w.heap.size]? = some (.cells #[.int .i64 kd, .bool ex, .int .i64 ac, .int .i64 n, .string nm, .int .i64 rf, .int .i64 fm, .int .i64 (L : Int)] 27 (0, 0)) := HBX.out w3 hbb
      have hb1 : w3.heap[w.heap.size + 1]? = some (.cells zeroOb 27 (0, 0)) := HBZ.out w3 hbb
      have HB := Lib.hid (show Below w.heap.size w w3 from bthen (below2 w _ _) hbb)
      have q0 : w3.cell? ⟨w.heap.size, 0, none⟩ = some (.int .i64 kd) := blk_cell hb2 0
      have q1 : w3.cell? ⟨w.heap.size, 1, none⟩ = some (.bool ex) := blk_cell hb2 1
      have q2 : w3.cell? ⟨w.heap.size, 2, none⟩ = some (.int .i64 ac) := blk_cell hb2 2
      have q3 : w3.cell? ⟨w.heap.size, 3, none⟩ = some (.int .i64 n) := blk_cell hb2 3
      have q4 : w3.cell? ⟨w.heap.size, 4, none⟩ = some (.string nm) := blk_cell hb2 4
      have q5 : w3.cell? ⟨w.heap.size, 5, none⟩ = some (.int .i64 rf) := blk_cell hb2 5
      have q6 : w3.cell? ⟨w.heap.size, 6, none⟩ = some (.int .i64 fm) := blk_cell hb2 6
      have q7 : w3.cell? ⟨w.heap.size, 7, none⟩ = some (.int .i64 (L : Int)) := blk_cell hb2 7
      have qf : ∀ o, w3.frozen? ⟨w.heap.size, o, none⟩ = false := blk_free hb2
      obtain ⟨d0, d1, d2, d3, d4, d5, d6, d7, df⟩ := box_cells hb1
      have HZ := Lib.hid hb1
      have HX := Lib.hid hb2
      clear hb1 hb2
      go_wp2_with fail
      refine (HLi.out _).mono ?_; rintro e w4 ⟨rfl, rfl⟩
      go_wp2_with fail
      have hz2 : ((w4.setCell ⟨w.heap.size, 6, none⟩ (.int .i64 (fm + f))).setCell ⟨w.heap.size, 7, none⟩ (.int .i64 m)).heap[w.heap.size + 1]? = some (.cells zeroOb 27 (0, 0)) := by rw [blk_far (by omega), blk_far (by omega)]; exact HZ.out
      have hp := put8 hz2 (.int .i64 kd) (.bool ex) (.int .i64 ac) (.int .i64 n) (.string nm) (.int .i64 rf) (.int .i64 (fm + f)) (.int .i64 m)
      exact bodyPost_ret (results_ob2 Tryz.results70 _ _ (w.heap.size + 1) rfl rfl hp.blk) rfl ⟨rfl, below_put8 (below_set (below_set HB.out (by simp) _) (by simp) _) (by omega) hp⟩
end Go.Proofs.YtfilbfenpdaahaaGreatDoor
