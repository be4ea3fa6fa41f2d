/-
  The i-th pair of a dictionary, by a contract: Pair.
-/
import Derived.Test.YtlflkdmbbomjeaaStoEnt2
namespace Go.Proofs.Ytlflkdmbbomjeaa
open Go.RowKit
open St
/-- the i-th pair, or none -/
def pairR (d : Option Th) (i : Int) : Option (Ob × Ob) := match d with
  | none => none
  | some y => if 0 ≤ i then y.pairs[i.toNat]? else none
def pairV (p : Option (Ob × Ob)) : Value := match p with
  | none => .tuple #[nul.val, nul.val, .bool false]
  | some p => .tuple #[p.1.val, p.2.val, .bool true]
theorem results_pair {fn : Func} (hfn : fn.results = #[.cell 6 40, .cell 7 40, .tmp 8]) (tmps : Array Value) (W : World) (B C : Nat) {b0 b1 b2 b3 b4 b5 b6 b7 c0 c1 c2 c3 c4 c5 c6 c7 v : Value} {t u : TypeId} (hp : tmps.getD 6 undef = .pointer (some ⟨B, 0, none⟩)) (hq : tmps.getD 7 undef = .pointer (some ⟨C, 0, none⟩)) (hv : tmps.getD 8 undef = v)
    (hb : W.heap[B]? = some (.cells #[b0, b1, b2, b3, b4, b5, b6, b7] u (0, 0))) (h : W.heap[C]? = some (.cells #[c0, c1, c2, c3, c4, c5, c6, c7] t (0, 0))) :
    (results fn tmps).run Try.prog W = .ok (.tuple #[.agg #[b0, b1, b2, b3, b4, b5, b6, b7], .agg #[c0, c1, c2, c3, c4, c5, c6, c7], v]) W := by
  obtain ⟨h0, h1, h2, h3, h4, h5, h6, h7⟩ := cellsOb h
  obtain ⟨g0, g1, g2, g3, g4, g5, g6, g7⟩ := cellsOb hb
  have hp2 : tmps[6]?.getD undef = .pointer (some ⟨B, 0, none⟩) := by rw [← hp]; simp
  have hq2 : tmps[7]?.getD undef = .pointer (some ⟨C, 0, none⟩) := by rw [← hq]; simp
  have hv2 : tmps[8]?.getD undef = v := by rw [← hv]; simp
  simp [results, hfn, go_sem, hp2, hq2, hv2, h0, h1, h2, h3, h4, h5, h6, h7, g0, g1, g2, g3, g4, g5, g6, g7]
theorem below3p (w : World) (a b c : Obj) : Below w.heap.size w (((w.alloc a).alloc b).alloc c) := (below2 w a b).trans ((below1 ((w.alloc a).alloc b) c).mono (below2 w a b).size)
theorem threep {w w5 : World} {a b c : Obj} (h : Below (((w.alloc a).alloc b).alloc c).heap.size (((w.alloc a).alloc b).alloc c) w5) : w5.heap[w.heap.size]? = some a ∧ w5.heap[w.heap.size + 1]? = some b ∧ w5.heap[w.heap.size + 1 + 1]? = some c := by
  refine ⟨?_, ?_, ?_⟩
  · rw [h.block _ (by simp; omega), heap_alloc_old _ _ (by simp; omega), heap_alloc_old _ _ (by simp)]; exact heap_alloc_new w a
  · rw [h.block _ (by simp), heap_alloc_old _ _ (by simp)]; exact alloc_at (by simp)
  · rw [h.block _ (by simp)]; exact alloc_at (by simp)
theorem alloc_drew {X : World} {o v : Obj} {k : Nat} (h : X.heap[k]? = some v) : ((X.alloc o).drew).heap[k]? = some v := (heap_alloc_old X o (Array.getElem?_eq_some_iff.1 h).1).trans h
theorem below_alloc_drew {w X : World} {o : Obj} (h : Below w.heap.size w X) : Below w.heap.size w ((X.alloc o).drew) := below_draw (h.alloc h.size o) 1
theorem pairs_blockp {O : Nat → Prop} {w : World} {t : Th} {l : Lay} (h : ThR O w t l) (hn : 0 < t.pairs.length) : ∃ B c cur, l.p = .slice (some ⟨B, 0, none⟩) t.pairs.length c ∧ w.heap[B]? = some (.cells cur 129 (0, 0)) := by
  rcases h.rp.2 with ⟨_, h0⟩ | ⟨g, cap, cur, e, _, hg, _⟩
  · omega
  · exact ⟨g, cap, cur, e, hg⟩
set_option maxRecDepth 100000 in
set_option maxHeartbeats 1000000 in
theorem pair_at {O : Nat → Prop} {w : World} {s : Nat} {fr : Int} {G : List (Th × Lay)} (h : Rep O w s fr G) (o : Ob) (i : Int) :
    Calls Try.prog 79 #[.pointer (some ⟨s, 0, none⟩), o.val, .int .i64 i] w fun e w' => e = .returned (pairV (pairR (dicT G o) i)) ∧ Below w.heap.size w w' := by
  have hb3 := below3p w (obC o) (.cells zeroOb 40) (.cells zeroOb 40)
  have h3 := h.below hb3
  obtain ⟨tv, hv0⟩ := Rep.vw h
  have HT := Lib.hid (told_rep h3 (hv0.below hb3) o 8)
  have HB3 := Lib.hid (fun w4 hb => threep (w := w) (w5 := w4) (a := obC o) (b := .cells zeroOb 40) (c := .cells zeroOb 40) hb)
  have HC0 := Lib.hid (fun t y (hy : G[t]? = some y) w4 (hb : Below w.heap.size w w4) => And.intro (vw_cells (hv0.below hb) hy) ((h.below hb).row t y hy))
  unfold obC zeroOb at HT
  simp only [obC, zeroOb] at HB3 hb3
  have HBl := Lib.hid hb3
  unfold Ob.val at HT ⊢
  cases ht : tld G o 8 with
  | none =>
    rw [dicT_none ht]
    simp only [pairR, pairV]
    rw [ht] at HT
    simp only [thP, Option.map_none] at HT
    clear ht h h3 hv0 hb3 HC0
    go_enter Try.func79, Try.ntmps79
    go_wp2_with fail
    refine HT.out.mono ?_; rintro e w4 ⟨rfl, hb⟩
    obtain ⟨_, y1, y2⟩ := HB3.out w4 hb
    obtain ⟨d0, d1, d2, d3, d4, d5, d6, d7, df⟩ := box_cells y1
    obtain ⟨e0, e1, e2, e3, e4, e5, e6, e7, ef⟩ := box_cells y2
    have HY1 := Lib.hid y1
    have HY2 := Lib.hid y2
    have HB := Lib.hid (bthen HBl.out hb)
    clear hb y1 y2
    go_wp2_with fail
    have hp := put8 HY1.out (.int .i64 0) (.bool false) (.int .i64 0) (.int .i64 0) (.string ⟨#[]⟩) (.int .i64 0) (.int .i64 0) (.int .i64 0)
    have hq := put8 ((hp.far (w.heap.size + 1 + 1) (by omega)).trans HY2.out) (.int .i64 0) (.bool false) (.int .i64 0) (.int .i64 0) (.string ⟨#[]⟩) (.int .i64 0) (.int .i64 0) (.int .i64 0)
    exact bodyPost_ret (results_pair Try.results79 _ _ (w.heap.size + 1) (w.heap.size + 1 + 1) rfl rfl rfl ((hq.far _ (by omega)).trans hp.blk) hq.blk) rfl ⟨rfl, below_put8 (below_put8 HB.out (by omega) hp) (by omega) hq⟩
  | some t =>
    obtain ⟨_, _, _, y, hy, _⟩ := tld_bounds h ht
    rw [dicT_some ht hy]
    simp only [pairR]
    rw [ht] at HT
    simp only [thP, Option.map_some] at HT
    have hps := (h.row t y hy).np
    obtain ⟨pa, pc, ep⟩ := own_slice (h.row t y hy).rp
    have HEP := Lib.hid ep
    have HC := Lib.hid (HC0.out t y hy)
    have HLi := Lib.hid (fun w => lies_at i 1 y.1.pairs.length (by omega) w)
    cases hl : liesB i 1 y.1.pairs.length with
    | false =>
      have hnone : (if 0 ≤ i then y.1.pairs[i.toNat]? else none) = none := by
        by_cases h0 : 0 ≤ i
        · rw [if_pos h0, List.getElem?_eq_none]
          have : ¬ (liesB i 1 y.1.pairs.length = true) := by rw [hl]; decide
          rw [liesB_iff] at this
          omega
        · rw [if_neg h0]
      rw [hnone]
      simp only [pairV]
      rw [hl] at HLi
      clear ht h h3 hv0 hb3 HC0 hy ep hl hnone
      go_enter Try.func79, Try.ntmps79
      go_wp2_with fail
      refine HT.out.mono ?_; rintro e w4 ⟨rfl, hb⟩
      obtain ⟨⟨_, _, _, _, c4, _⟩, _⟩ := HC.out w4 (bthen HBl.out hb)
      rw [HEP.out] at c4
      obtain ⟨_, y1, y2⟩ := HB3.out w4 hb
      obtain ⟨d0, d1, d2, d3, d4, d5, d6, d7, df⟩ := box_cells y1
      obtain ⟨e0, e1, e2, e3, e4, e5, e6, e7, ef⟩ := box_cells y2
      have HY1 := Lib.hid y1
      have HY2 := Lib.hid y2
      have HB := Lib.hid (bthen HBl.out hb)
      clear hb y1 y2
      go_wp2_with fail
      refine (HLi.out _).mono ?_; rintro e w5 ⟨rfl, rfl⟩
      go_wp2_with fail
      have hp := put8 HY1.out (.int .i64 0) (.bool false) (.int .i64 0) (.int .i64 0) (.string ⟨#[]⟩) (.int .i64 0) (.int .i64 0) (.int .i64 0)
      have hq := put8 ((hp.far (w.heap.size + 1 + 1) (by omega)).trans HY2.out) (.int .i64 0) (.bool false) (.int .i64 0) (.int .i64 0) (.string ⟨#[]⟩) (.int .i64 0) (.int .i64 0) (.int .i64 0)
      exact bodyPost_ret (results_pair Try.results79 _ _ (w.heap.size + 1) (w.heap.size + 1 + 1) rfl rfl rfl ((hq.far _ (by omega)).trans hp.blk) hq.blk) rfl ⟨rfl, below_put8 (below_put8 HB.out (by omega) hp) (by omega) hq⟩
    | true =>
      have hlb := liesB_iff.1 hl
      obtain ⟨I, rfl⟩ : ∃ I : Nat, i = I := ⟨i.toNat, by omega⟩
      have hIl : I < y.1.pairs.length := by omega
      obtain ⟨p, hp⟩ : ∃ p, y.1.pairs[I]? = some p := ⟨_, List.getElem?_eq_getElem hIl⟩
      rw [if_pos (by omega), Int.toNat_natCast, hp]
      simp only [pairV]
      rw [hl] at HLi
      have HP := Lib.hid hp
      have hix1 : (I : Int) < (y.1.pairs.length : Int) := by omega
      clear ht h h3 hv0 hb3 HC0 hy ep hl hlb hp
      go_enter Try.func79, Try.ntmps79
      go_wp2_with fail
      refine HT.out.mono ?_; rintro e w4 ⟨rfl, hb⟩
      obtain ⟨⟨_, _, _, _, c4, _⟩, hth⟩ := HC.out w4 (bthen HBl.out hb)
      obtain ⟨B, c, cur, ei, _⟩ := pairs_blockp hth (by omega)
      have hr := hth.rp
      rw [ei] at c4 hr
      have hpc : ∀ f, f < 17 → w4.cell? ⟨B, I * 17 + f, none⟩ = (pairC p)[f]? := fun f hf => by rw [hr.cellAt (I * 17 + f) (by omega), pairs_at _ I f _ HP.out hf]
      have p0 : w4.cell? ⟨B, I * 17, none⟩ = some (.int .i64 p.1.kind) := hpc 0 (by omega)
      have p1 : w4.cell? ⟨B, I * 17 + 1, none⟩ = some (.bool p.1.exec) := hpc 1 (by omega)
      have p2 : w4.cell? ⟨B, I * 17 + 2, none⟩ = some (.int .i64 p.1.acc) := hpc 2 (by omega)
      have p3 : w4.cell? ⟨B, I * 17 + 3, none⟩ = some (.int .i64 p.1.n) := hpc 3 (by omega)
      have p4 : w4.cell? ⟨B, I * 17 + 4, none⟩ = some (.string p.1.name) := hpc 4 (by omega)
      have p5 : w4.cell? ⟨B, I * 17 + 5, none⟩ = some (.int .i64 p.1.ref) := hpc 5 (by omega)
      have p6 : w4.cell? ⟨B, I * 17 + 6, none⟩ = some (.int .i64 p.1.frm) := hpc 6 (by omega)
      have p7 : w4.cell? ⟨B, I * 17 + 7, none⟩ = some (.int .i64 p.1.len) := hpc 7 (by omega)
      have p8 : w4.cell? ⟨B, I * 17 + 8, none⟩ = some (.int .i64 p.2.kind) := hpc 8 (by omega)
      have p9 : w4.cell? ⟨B, I * 17 + 9, none⟩ = some (.bool p.2.exec) := hpc 9 (by omega)
      have p10 : w4.cell? ⟨B, I * 17 + 10, none⟩ = some (.int .i64 p.2.acc) := hpc 10 (by omega)
      have p11 : w4.cell? ⟨B, I * 17 + 11, none⟩ = some (.int .i64 p.2.n) := hpc 11 (by omega)
      have p12 : w4.cell? ⟨B, I * 17 + 12, none⟩ = some (.string p.2.name) := hpc 12 (by omega)
      have p13 : w4.cell? ⟨B, I * 17 + 13, none⟩ = some (.int .i64 p.2.ref) := hpc 13 (by omega)
      have p14 : w4.cell? ⟨B, I * 17 + 14, none⟩ = some (.int .i64 p.2.frm) := hpc 14 (by omega)
      have p15 : w4.cell? ⟨B, I * 17 + 15, none⟩ = some (.int .i64 p.2.len) := hpc 15 (by omega)
      have p16 : w4.cell? ⟨B, I * 17 + 16, none⟩ = some (.int .i64 0) := hpc 16 (by omega)
      obtain ⟨_, y1, y2⟩ := HB3.out w4 hb
      obtain ⟨d0, d1, d2, d3, d4, d5, d6, d7, df⟩ := box_cells y1
      obtain ⟨e0, e1, e2, e3, e4, e5, e6, e7, ef⟩ := box_cells y2
      have hlt4 : w.heap.size + 1 + 1 < w4.heap.size := (Array.getElem?_eq_some_iff.1 y2).1
      have hlt4b : w.heap.size + 1 < w4.heap.size := by omega
      have HY1 := Lib.hid y1
      have HY2 := Lib.hid y2
      have HB := Lib.hid (bthen HBl.out hb)
      clear hb y1 y2 hpc hth hr ei
      go_wp2_with fail
      refine (HLi.out _).mono ?_; rintro e w5 ⟨rfl, rfl⟩
      go_wp2_with fail
      go_region
      all_goals go_wp2_with fail
      all_goals
        have hp := put8 HY1.out (.int .i64 p.1.kind) (.bool p.1.exec) (.int .i64 p.1.acc) (.int .i64 p.1.n) (.string p.1.name) (.int .i64 p.1.ref) (.int .i64 p.1.frm) (.int .i64 p.1.len)
        have hq := put8 ((hp.far (w.heap.size + 1 + 1) (by omega)).trans HY2.out) (.int .i64 p.2.kind) (.bool p.2.exec) (.int .i64 p.2.acc) (.int .i64 p.2.n) (.string p.2.name) (.int .i64 p.2.ref) (.int .i64 p.2.frm) (.int .i64 p.2.len)
        exact bodyPost_ret (results_pair Try.results79 _ _ (w.heap.size + 1) (w.heap.size + 1 + 1) rfl rfl rfl (alloc_drew ((hq.far _ (by omega)).trans hp.blk)) (alloc_drew hq.blk)) rfl ⟨rfl, below_alloc_drew (below_put8 (below_put8 HB.out (by omega) hp) (by omega) hq)⟩
end Go.Proofs.Ytlflkdmbbomjeaa
