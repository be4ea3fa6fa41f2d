/-
  The dictionary, the key and the place of its pair, by a contract: entry.
-/
import Derived.Test.YtlflkdmbbomjeaaStoEnt
namespace Go.Proofs.Ytlflkdmbbomjeaa
open Go.RowKit
open St
/-- what entry answers -/
def entV (G : List (Th × Lay)) (tv : Value) (d k : Ob) : Value := match tld G d 8 with
  | none => .tuple #[.pointer none, nul.val, .int .i64 0, .int .i64 21]
  | some t => if (keyR G k).2 = 0 then (match G[t]? with
      | some y => .tuple #[.pointer (some ⟨blkOf tv, t * 7, none⟩), (keyR G k).1.val, .int .i64 (idxI (idx y.1.pairs (keyR G k).1)), .int .i64 0]
      | none => undef) else .tuple #[.pointer none, nul.val, .int .i64 0, .int .i64 (keyR G k).2]
theorem below4 (w : World) (a b c d : Obj) : Below w.heap.size w ((((w.alloc a).alloc b).alloc c).alloc d) := (below2 w a b).trans ((below2 ((w.alloc a).alloc b) c d).mono (below2 w a b).size)
theorem four {w w5 : World} {a b c d : Obj} (h : Below ((((w.alloc a).alloc b).alloc c).alloc d).heap.size ((((w.alloc a).alloc b).alloc c).alloc d) w5) : w5.heap[w.heap.size]? = some a ∧ w5.heap[w.heap.size + 1]? = some b ∧ w5.heap[w.heap.size + 1 + 1]? = some c ∧ w5.heap[w.heap.size + 1 + 1 + 1]? = some d := by
  refine ⟨?_, ?_, ?_, ?_⟩
  · rw [h.block _ (by simp; omega), heap_alloc_old _ _ (by simp; omega), heap_alloc_old _ _ (by simp; omega), heap_alloc_old _ _ (by simp)]; exact heap_alloc_new w a
  · rw [h.block _ (by simp), heap_alloc_old _ _ (by simp), heap_alloc_old _ _ (by simp)]; exact alloc_at (by simp)
  · rw [h.block _ (by simp), heap_alloc_old _ _ (by simp)]; exact alloc_at (by simp)
  · rw [h.block _ (by simp)]; exact alloc_at (by simp)
theorem ptr1 {W : World} {P : Nat} {v : Value} {t : TypeId} (h : W.heap[P]? = some (.cells #[v] t (0, 0))) (x : Value) : (W.setCell ⟨P, 0, none⟩ x).heap[P]? = some (.cells #[x] t (0, 0)) := blk_set h 0 x
theorem Put8.draws {W w' : World} {B : Nat} {t : TypeId} {v0 v1 v2 v3 v4 v5 v6 v7 : Value} (h : Put8 W B t v0 v1 v2 v3 v4 v5 v6 v7 w') (q : Nat) : Put8 W B t v0 v1 v2 v3 v4 v5 v6 v7 (w'.drewN q) := ⟨h.blk, h.far, h.size, h.os, h.tape, h.output⟩
theorem ent_of {O : Nat → Prop} {W : World} {b1 b2 g t : Nat} {y : Th × Lay} {key : Ob} (hT : ThR O W y.1 y.2) (hc : W.cell? ⟨g, t * 7 + 4, none⟩ = some y.2.p) (h1 : W.cell? ⟨b1, 0, none⟩ = some (.pointer (some ⟨g, t * 7, none⟩))) (hb : W.heap[b2]? = some (obC key)) : Ent W b1 b2 g t y.1.pairs key := by
  refine ⟨h1, hb, ?_⟩
  have hr := hT.rp
  rcases hr.2 with ⟨_, hn⟩ | ⟨B, c, cur, e, _⟩
  · exact .inl (List.eq_nil_of_length_eq_zero hn)
  · rw [e] at hr
    refine .inr ⟨B, c, by rw [hc, e], fun i f p hp hf => ?_⟩
    have hi : i < y.1.pairs.length := (List.getElem?_eq_some_iff.1 hp).1
    rw [hr.cellAt (i * 17 + f) (by omega), pairs_at _ i f p hp hf]
theorem results_ent {fn : Func} (hfn : fn.results = #[.cell 6 115, .cell 7 40, .tmp 8, .tmp 9]) (tmps : Array Value) (W : World) (B C : Nat) {p c0 c1 c2 c3 c4 c5 c6 c7 v u : Value} {t : TypeId} (hp : tmps.getD 6 undef = .pointer (some ⟨B, 0, none⟩)) (hq : tmps.getD 7 undef = .pointer (some ⟨C, 0, none⟩)) (hv : tmps.getD 8 undef = v) (hu : tmps.getD 9 undef = u)
    (hb : W.cell? ⟨B, 0, none⟩ = some p) (h : W.heap[C]? = some (.cells #[c0, c1, c2, c3, c4, c5, c6, c7] t (0, 0))) :
    (results fn tmps).run Try.prog W = .ok (.tuple #[p, .agg #[c0, c1, c2, c3, c4, c5, c6, c7], v, u]) W := by
  obtain ⟨h0, h1, h2, h3, h4, h5, h6, h7⟩ := cellsOb h
  have hp2 : tmps[6]?.getD undef = .pointer (some ⟨B, 0, none⟩) := by rw [← hp]; simp
  have hq2 : tmps[7]?.getD undef = .pointer (some ⟨C, 0, none⟩) := by rw [← hq]; simp
  have hv2 : tmps[8]?.getD undef = v := by rw [← hv]; simp
  have hu2 : tmps[9]?.getD undef = u := by rw [← hu]; simp
  simp [results, hfn, go_sem, hp2, hq2, hv2, hu2, hb, h0, h1, h2, h3, h4, h5, h6, h7]
set_option maxRecDepth 100000 in
set_option maxHeartbeats 1000000 in
theorem entry_at {O : Nat → Prop} {w : World} {s : Nat} {fr : Int} {G : List (Th × Lay)} {tv : Value} (h : Rep O w s fr G) (hv0 : Vw w s tv G) (d k : Ob) :
    Calls Try.prog 61 #[.pointer (some ⟨s, 0, none⟩), d.val, k.val] w fun e w' => e = .returned (entV G tv d k) ∧ Below w.heap.size w w' := by
  have hb4 := below4 w (obC d) (obC k) (.cells #[.pointer none] 115) (.cells zeroOb 40)
  have h4 := h.below hb4
  have HT := Lib.hid (told_rep h4 (hv0.below hb4) d 8)
  have HB4 := Lib.hid (fun w5 hb => four (w := w) (w5 := w5) (a := obC d) (b := obC k) (c := .cells #[.pointer none] 115) (d := .cells zeroOb 40) hb)
  have HR := Lib.hid (fun w5 (hb : Below w.heap.size w w5) => h.below hb)
  have HV := Lib.hid (fun w5 (hb : Below w.heap.size w w5) => hv0.below hb)
  unfold obC zeroOb at HT
  simp only [obC, zeroOb] at HB4 hb4
  have HBl := Lib.hid hb4
  unfold Ob.val at HT ⊢
  have hev : entV G tv d k = match tld G d 8 with
    | none => .tuple #[.pointer none, nul.val, .int .i64 0, .int .i64 21]
    | some t => if (keyR G k).2 = 0 then (match G[t]? with
        | some y => .tuple #[.pointer (some ⟨blkOf tv, t * 7, none⟩), (keyR G k).1.val, .int .i64 (idxI (idx y.1.pairs (keyR G k).1)), .int .i64 0]
        | none => undef) else .tuple #[.pointer none, nul.val, .int .i64 0, .int .i64 (keyR G k).2] := rfl
  generalize entV G tv d k = ev at *
  cases ht : tld G d 8 with
  | none =>
    rw [ht] at HT hev
    simp only [thP, Option.map_none] at HT hev
    subst hev
    clear ht h h4 hv0 HR HV hb4
    go_enter Try.func61, Try.ntmps61
    go_wp2_with fail
    refine HT.out.mono ?_; rintro e w5 ⟨rfl, hb⟩
    obtain ⟨_, _, x2, x3⟩ := HB4.out w5 hb
    have c2 : w5.cell? ⟨w.heap.size + 2, 0, none⟩ = some (.pointer none) := blk_cell x2 0
    have f2 := blk_free x2 0
    have HX2 := Lib.hid x2
    have HX3 := Lib.hid x3
    obtain ⟨d0, d1, d2, d3, d4, d5, d6, d7, df⟩ := box_cells x3
    have HB := Lib.hid (bthen HBl.out hb)
    clear hb x2 x3
    go_wp2_with fail
    have hz : ((w5.setCell ⟨w.heap.size + 1 + 1, 0, none⟩ (.pointer none)).setCell ⟨w.heap.size + 1 + 1, 0, none⟩ (.pointer none)).heap[w.heap.size + 1 + 1 + 1]? = some (.cells zeroOb 40 (0, 0)) := by rw [blk_far (by omega), blk_far (by omega)]; exact HX3.out
    have hp := put8 hz (.int .i64 0) (.bool false) (.int .i64 0) (.int .i64 0) (.string ⟨#[]⟩) (.int .i64 0) (.int .i64 0) (.int .i64 0)
    exact bodyPost_ret (results_ent Try.results61 _ _ (w.heap.size + 1 + 1) (w.heap.size + 1 + 1 + 1) rfl rfl rfl rfl (blk_cell ((hp.far _ (by omega)).trans (ptr1 (ptr1 HX2.out _) _)) 0) hp.blk) rfl ⟨rfl, below_put8 (below_set (below_set HB.out (by simp; omega) _) (by simp; omega) _) (by omega) hp⟩
  | some t =>
    rw [ht] at HT hev
    simp only [thP, Option.map_some] at HT hev
    obtain ⟨_, _, _, y, hy, _⟩ := tld_bounds h ht
    simp only [hy] at hev
    have HK := Lib.hid (fun w6 (hb : Below w.heap.size w w6) => key_at (HR.out w6 hb) k)
    unfold ObE Ob.val at HK
    generalize keyR G k = kr at *
    have HC := Lib.hid (fun w6 (hb : Below w.heap.size w w6) => vw_cells (HV.out w6 hb) hy)
    have HTh := Lib.hid (fun w6 (hb : Below w.heap.size w w6) => (HR.out w6 hb).row t y hy)
    have hps := (h.row t y hy).np
    have hlt0 : blkOf tv < w.heap.size := World.block_lt_of_cell? w _ (vw_cells hv0 hy).1
    by_cases hk0 : kr.2 = 0
    · rw [if_pos hk0] at hev
      subst hev
      have HK0 := Lib.hid hk0
      have hmf : ∀ (fn : Fn) (first cap : Array Value) (w : World), (Instr.makeFunc fn first cap).run Try.prog w = .ok (.func fn first cap) w := fun _ _ _ _ => rfl
      clear ht h h4 hv0 HR HV hb4 hy hk0
      go_enter Try.func61, Try.ntmps61
      go_wp2_with fail
      refine HT.out.mono ?_; rintro e w5 ⟨rfl, hb⟩
      obtain ⟨_, x1, x2, x3⟩ := HB4.out w5 hb
      have c2 : w5.cell? ⟨w.heap.size + 1 + 1, 0, none⟩ = some (.pointer none) := blk_cell x2 0
      have f2 := blk_free x2 0
      have hlt5 : w.heap.size + 1 + 1 + 1 < w5.heap.size := (Array.getElem?_eq_some_iff.1 x3).1
      obtain ⟨q0, q1, q2, q3, q4, q5, q6, q7⟩ := cellsOb x1
      have hb5 := bthen HBl.out hb
      have hb6 := below_set hb5 (a := ⟨w.heap.size + 1 + 1, 0, none⟩) (by simp; omega) (.pointer (some ⟨blkOf tv, t * 7, none⟩))
      have HK6 := Lib.hid (HK.out _ hb6)
      have HB6 := Lib.hid hb6
      have HX2 := Lib.hid (ptr1 x2 (.pointer (some ⟨blkOf tv, t * 7, none⟩)))
      have HX3 := Lib.hid (show (w5.setCell ⟨w.heap.size + 1 + 1, 0, none⟩ (.pointer (some ⟨blkOf tv, t * 7, none⟩))).heap[w.heap.size + 1 + 1 + 1]? = some (.cells zeroOb 40 (0, 0)) by rw [blk_far (by omega)]; exact x3)
      clear hb x1 x2 x3 hb5 hb6 HK
      go_wp2_with fail
      refine HK6.out.mono ?_; rintro e w7 ⟨rfl, hb7⟩
      have x2 := (hb7.block (w.heap.size + 1 + 1) (by rw [setC_size]; omega)).trans HX2.out
      have x3 := (hb7.block (w.heap.size + 1 + 1 + 1) (by rw [setC_size]; omega)).trans HX3.out
      have HY2 := Lib.hid x2
      have HY3 := Lib.hid x3
      have c2 : w7.cell? ⟨w.heap.size + 1 + 1, 0, none⟩ = some (.pointer (some ⟨blkOf tv, t * 7, none⟩)) := blk_cell x2 0
      have f2 := blk_free x2 0
      obtain ⟨d0, d1, d2, d3, d4, d5, d6, d7, df⟩ := box_cells x3
      have HB7 := Lib.hid (HB6.out.trans (hb7.mono HB6.out.size))
      rw [HK0.out]
      clear hb7 x2 x3 q0 q1 q2 q3 q4 q5 q6 q7
      obtain ⟨_, _, _, _, c4, _⟩ := HC.out w7 HB7.out
      obtain ⟨pa, pc, ep⟩ := own_slice (HTh.out w7 HB7.out).rp
      rw [ep] at c4
      have hne1 : ¬ blkOf tv = w.heap.size + 1 + 1 := by omega
      have hne2 : ¬ blkOf tv = w.heap.size + 1 + 1 + 1 := by omega
      have hp8 := put8 HY3.out (.int .i64 kr.1.kind) (.bool kr.1.exec) (.int .i64 kr.1.acc) (.int .i64 kr.1.n) (.string kr.1.name) (.int .i64 kr.1.ref) (.int .i64 kr.1.frm) (.int .i64 kr.1.len)
      have hb8 := below_put8 HB7.out (by omega) hp8
      obtain ⟨_, _, _, _, e4, _⟩ := HC.out _ hb8
      have HF := Lib.hid (first_at (ent_of (b1 := w.heap.size + 1 + 1) (b2 := w.heap.size + 1 + 1 + 1) (key := kr.1) (HTh.out _ hb8) e4 (blk_cell ((hp8.far _ (by omega)).trans HY2.out) 0) hp8.blk) hps)
      have HP8 := Lib.hid hp8
      have HB8 := Lib.hid hb8
      clear hb8 hp8 e4
      go_wp2_with fail
      refine HF.out.mono ?_; rintro e w9 ⟨rfl, q, rfl⟩
      clear HF
      go_wp2_with fail
      go_region
      all_goals go_wp2_with fail
      have hp8q := HP8.out.draws (q + 1)
      have hz2 := (blk_far (W := _) (B := w.heap.size + 1 + 1) (b := w.heap.size + 1 + 1 + 1) (j := 0) (by omega) (.pointer (some ⟨blkOf tv, t * 7, none⟩))).trans hp8q.blk
      have hp9 := put8 hz2 (.int .i64 kr.1.kind) (.bool kr.1.exec) (.int .i64 kr.1.acc) (.int .i64 kr.1.n) (.string kr.1.name) (.int .i64 kr.1.ref) (.int .i64 kr.1.frm) (.int .i64 kr.1.len)
      exact bodyPost_ret (results_ent Try.results61 _ _ (w.heap.size + 1 + 1) (w.heap.size + 1 + 1 + 1) rfl rfl rfl rfl (blk_cell ((hp9.far _ (by omega)).trans (ptr1 ((hp8q.far _ (by omega)).trans HY2.out) _)) 0) hp9.blk) rfl ⟨rfl, below_put8 (below_set (below_draw HB8.out _) (by simp; omega) _) (by omega) hp9⟩
    · rw [if_neg hk0] at hev
      subst hev
      have hkn : (kr.2 != 0) = true := by simp [hk0]
      clear ht h h4 hv0 HR HV hb4 hy hk0
      go_enter Try.func61, Try.ntmps61
      go_wp2_with fail
      refine HT.out.mono ?_; rintro e w5 ⟨rfl, hb⟩
      obtain ⟨_, x1, x2, x3⟩ := HB4.out w5 hb
      have c2 : w5.cell? ⟨w.heap.size + 1 + 1, 0, none⟩ = some (.pointer none) := blk_cell x2 0
      have f2 := blk_free x2 0
      have hlt5 : w.heap.size + 1 + 1 + 1 < w5.heap.size := (Array.getElem?_eq_some_iff.1 x3).1
      obtain ⟨q0, q1, q2, q3, q4, q5, q6, q7⟩ := cellsOb x1
      have hb5 := bthen HBl.out hb
      have hb6 := below_set hb5 (a := ⟨w.heap.size + 1 + 1, 0, none⟩) (by simp; omega) (.pointer (some ⟨blkOf tv, t * 7, none⟩))
      have HK6 := Lib.hid (HK.out _ hb6)
      have HB6 := Lib.hid hb6
      have HX2 := Lib.hid (ptr1 x2 (.pointer (some ⟨blkOf tv, t * 7, none⟩)))
      have HX3 := Lib.hid (show (w5.setCell ⟨w.heap.size + 1 + 1, 0, none⟩ (.pointer (some ⟨blkOf tv, t * 7, none⟩))).heap[w.heap.size + 1 + 1 + 1]? = some (.cells zeroOb 40 (0, 0)) by rw [blk_far (by omega)]; exact x3)
      clear hb x1 x2 x3 hb5 hb6 HK
      go_wp2_with fail
      refine HK6.out.mono ?_; rintro e w7 ⟨rfl, hb7⟩
      have x2 := (hb7.block (w.heap.size + 1 + 1) (by rw [setC_size]; omega)).trans HX2.out
      have x3 := (hb7.block (w.heap.size + 1 + 1 + 1) (by rw [setC_size]; omega)).trans HX3.out
      have HY2 := Lib.hid x2
      have HY3 := Lib.hid x3
      have c2 : w7.cell? ⟨w.heap.size + 1 + 1, 0, none⟩ = some (.pointer (some ⟨blkOf tv, t * 7, none⟩)) := blk_cell x2 0
      have f2 := blk_free x2 0
      obtain ⟨d0, d1, d2, d3, d4, d5, d6, d7, df⟩ := box_cells x3
      have HB7 := Lib.hid (HB6.out.trans (hb7.mono HB6.out.size))
      clear hb7 x2 x3 q0 q1 q2 q3 q4 q5 q6 q7
      go_wp2_with fail
      have hp8 := put8 HY3.out (.int .i64 kr.1.kind) (.bool kr.1.exec) (.int .i64 kr.1.acc) (.int .i64 kr.1.n) (.string kr.1.name) (.int .i64 kr.1.ref) (.int .i64 kr.1.frm) (.int .i64 kr.1.len)
      have hz2 := (blk_far (W := _) (B := w.heap.size + 1 + 1) (b := w.heap.size + 1 + 1 + 1) (j := 0) (by omega) (.pointer none)).trans hp8.blk
      have hp9 := put8 hz2 (.int .i64 0) (.bool false) (.int .i64 0) (.int .i64 0) (.string ⟨#[]⟩) (.int .i64 0) (.int .i64 0) (.int .i64 0)
      exact bodyPost_ret (results_ent Try.results61 _ _ (w.heap.size + 1 + 1) (w.heap.size + 1 + 1 + 1) rfl rfl rfl rfl (blk_cell ((hp9.far _ (by omega)).trans (ptr1 ((hp8.far _ (by omega)).trans HY2.out) _)) 0) hp9.blk) rfl ⟨rfl, below_put8 (below_set (below_put8 HB7.out (by omega) hp8) (by simp; omega) _) (by omega) hp9⟩
end Go.Proofs.Ytlflkdmbbomjeaa
