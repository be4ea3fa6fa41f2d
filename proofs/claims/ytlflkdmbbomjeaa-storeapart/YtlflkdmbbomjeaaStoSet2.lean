/-
  A pair is set, by a contract: Set.
-/
import Derived.Test.YtlflkdmbbomjeaaStoSet
namespace Go.Proofs.Ytlflkdmbbomjeaa
open Go.RowKit
open St
def setE (G : List (Th × Lay)) (d k x : Ob) : Int := if valid G x = true then (match tld G d 8 with
  | none => 21
  | some t => if (keyR G k).2 = 0 then (match G[t]? with
      | none => 21
      | some y => match idx y.1.pairs (keyR G k).1 with
        | some _ => 0
        | none => if (y.1.pairs.length : Int) = y.1.most then 1 else 0) else (keyR G k).2) else 21
def setR (G : List (Th × Lay)) (d k x : Ob) (v : Value) : List (Th × Lay) := match tld G d 8 with
  | none => G
  | some t => match G[t]? with
    | none => G
    | some y => match idx y.1.pairs (keyR G k).1 with
      | some i => G.modify t (setF i (keyR G k).1 x)
      | none => G.modify t (addF (keyR G k).1 x v)
def SetP (O : Nat → Prop) (w : World) (s : Nat) (fr : Int) (G : List (Th × Lay)) (d k x : Ob) (e : Ending) (w' : World) : Prop :=
  e = .returned (.int .i64 (setE G d k x)) ∧ ((setE G d k x ≠ 0 ∧ Below w.heap.size w w') ∨ (setE G d k x = 0 ∧ ∃ v, Rep (Up O w w') w' s fr (setR G d k x v) ∧ Frm O w w'))
theorem below3 (w : World) (a b c : Obj) : Below w.heap.size w (((w.alloc a).alloc b).alloc c) := (below2 w a b).trans ((below1 ((w.alloc a).alloc b) c).mono (below2 w a b).size)
theorem three {w w5 : World} {a b c : Obj} (h : Below (((w.alloc a).alloc b).alloc c).heap.size (((w.alloc a).alloc b).alloc c) w5) : w5.heap[w.heap.size]? = some a ∧ w5.heap[w.heap.size + 1]? = some b ∧ w5.heap[w.heap.size + 1 + 1]? = some c := by
  refine ⟨?_, ?_, ?_⟩
  · rw [h.block _ (by simp; omega), heap_alloc_old _ _ (by simp; omega), heap_alloc_old _ _ (by simp)]; exact heap_alloc_new w a
  · rw [h.block _ (by simp), heap_alloc_old _ _ (by simp)]; exact alloc_at (by simp)
  · rw [h.block _ (by simp)]; exact alloc_at (by simp)
theorem rep_up {O : Nat → Prop} {w w' : World} {s : Nat} {fr : Int} {G : List (Th × Lay)} (h : Rep O w' s fr G) (hO : ∀ k, O k → k < w.heap.size) (hz : w.heap.size ≤ w'.heap.size) : Rep (Up O w w') w' s fr G :=
  h.mono (fun _ _ e => .inl e) (fun k e => by
    rcases e with e | e
    · have := hO k e; omega
    · exact e.2)
theorem ob_eq {a b : Ob} (h : obEq a b = true) : a = b := by
  obtain ⟨a1, a2, a3, a4, a5, a6, a7, a8⟩ := a
  obtain ⟨b1, b2, b3, b4, b5, b6, b7, b8⟩ := b
  unfold obEq at h
  rw [beq_toListBytes] at h
  simp at h
  obtain ⟨h1, h2, h3, h4, h5, h6, h7, h8⟩ := h
  subst h1 h2 h3 h4 h6 h7 h8
  have : a5 = b5 := by
    rw [ByteArray.toList_eq, ByteArray.toList_eq] at h5
    obtain ⟨⟨p⟩⟩ := a5
    obtain ⟨⟨q⟩⟩ := b5
    simp at h5
    rw [h5]
  rw [this]
theorem idx_some {ps : List (Ob × Ob)} {key : Ob} {i : Nat} (h : idx ps key = some i) : ∃ p, ps[i]? = some p ∧ p.1 = key := by
  unfold idx at h
  rw [List.findIdx?_eq_some_iff_getElem] at h
  obtain ⟨hi, he, _⟩ := h
  exact ⟨_, List.getElem?_eq_getElem hi, ob_eq he⟩
theorem pair_info : (Try.prog.info? 129).map (fun i => (i.zero, i.size, i.bytes)) = some (some (.agg #[.int .i64 0, .bool false, .int .i64 0, .int .i64 0, .string ⟨#[]⟩, .int .i64 0, .int .i64 0, .int .i64 0, .int .i64 0, .bool false, .int .i64 0, .int .i64 0, .string ⟨#[]⟩, .int .i64 0, .int .i64 0, .int .i64 0, .int .i64 0]), 17, 152) := by kernel_rfl
theorem s16 {W : World} {K X : Nat} {key x : Ob} (hk : W.heap[K]? = some (obC key)) (hx : W.heap[X]? = some (obC x)) : W.cell? ⟨K, 0, none⟩ = some (.int .i64 key.kind) ∧ W.cell? ⟨K, 1, none⟩ = some (.bool key.exec) ∧ W.cell? ⟨K, 2, none⟩ = some (.int .i64 key.acc) ∧ W.cell? ⟨K, 3, none⟩ = some (.int .i64 key.n) ∧ W.cell? ⟨K, 4, none⟩ = some (.string key.name) ∧ W.cell? ⟨K, 5, none⟩ = some (.int .i64 key.ref) ∧ W.cell? ⟨K, 6, none⟩ = some (.int .i64 key.frm) ∧ W.cell? ⟨K, 7, none⟩ = some (.int .i64 key.len) ∧ W.cell? ⟨X, 0, none⟩ = some (.int .i64 x.kind) ∧ W.cell? ⟨X, 1, none⟩ = some (.bool x.exec) ∧ W.cell? ⟨X, 2, none⟩ = some (.int .i64 x.acc) ∧ W.cell? ⟨X, 3, none⟩ = some (.int .i64 x.n) ∧ W.cell? ⟨X, 4, none⟩ = some (.string x.name) ∧ W.cell? ⟨X, 5, none⟩ = some (.int .i64 x.ref) ∧ W.cell? ⟨X, 6, none⟩ = some (.int .i64 x.frm) ∧ W.cell? ⟨X, 7, none⟩ = some (.int .i64 x.len) :=
  ⟨blk_cell hk 0, blk_cell hk 1, blk_cell hk 2, blk_cell hk 3, blk_cell hk 4, blk_cell hk 5, blk_cell hk 6, blk_cell hk 7, blk_cell hx 0, blk_cell hx 1, blk_cell hx 2, blk_cell hx 3, blk_cell hx 4, blk_cell hx 5, blk_cell hx 6, blk_cell hx 7⟩
theorem tv_facts {O : Nat → Prop} {w : World} {s t : Nat} {fr : Int} {G : List (Th × Lay)} {tv : Value} {y : Th × Lay} (h : Rep O w s fr G) (hv : Vw w s tv G) (hy : G[t]? = some y) : some (blkOf tv) ≠ y.2.p.ownBlock ∧ (∀ q, w.frozen? ⟨blkOf tv, q, none⟩ = false) ∧ O (blkOf tv) := by
  obtain ⟨tv2, am, cm, ac, cc, hb, ht, ho⟩ := h.blk
  have e0 : tv2 = tv := by have := blk_cell hb 0; rw [hv.c0] at this; simpa using this.symm
  subst e0
  have hlt0 : t < G.length := (List.getElem?_eq_some_iff.1 hy).1
  rcases ht.2 with ⟨_, hn⟩ | ⟨g, capT, cur, rfl, _, hg, _⟩
  · omega
  · exact ⟨own_ne hg (h.row t y hy).rp (by decide), fun q => blk_free hg q, ho g rfl⟩
theorem add_fin {O : Nat → Prop} {w wL D w1 : World} {s t gg cap H : Nat} {fr : Int} {G : List (Th × Lay)} {tv : Value} {y : Th × Lay} {key x : Ob} {ob : Obj} {pv : Value} (hO : ∀ k, O k → k < w.heap.size) (hbL : Below w.heap.size w wL) (hR : Rep O wL s fr G) (hv : Vw wL s tv G) (hy : G[t]? = some y) (hep : y.2.p = pv) (hm : (y.1.pairs.length : Int) < y.1.most)
    (hown : w1.ownsRow 0 129 17 (.slice (some ⟨gg, 0, none⟩) (y.1.pairs.length + 1) cap) (y.1.pairs.length + 1) (y.1.pairs.flatMap pairC ++ pairC (key, x))) (hgr : D.grownBy w1 pv.ownBlock) (hD : D.heap = (wL.alloc ob).heap ∧ D.os = wL.os ∧ D.tape = wL.tape ∧ D.output = wL.output) (hat : pv.ownBlock = some gg ∨ gg = H) (hH : wL.heap.size ≤ H) (hlt : gg < w1.heap.size) :
    ∃ v, Rep (Up O w (w1.setCell ⟨blkOf tv, t * 7 + 4, none⟩ (.slice (some ⟨gg, 0, none⟩) (y.1.pairs.length + 1) cap))) (w1.setCell ⟨blkOf tv, t * 7 + 4, none⟩ (.slice (some ⟨gg, 0, none⟩) (y.1.pairs.length + 1) cap)) s fr (G.modify t (addF key x v)) ∧ Frm O w (w1.setCell ⟨blkOf tv, t * 7 + 4, none⟩ (.slice (some ⟨gg, 0, none⟩) (y.1.pairs.length + 1) cap)) := by
  subst hep
  obtain ⟨dh, d1, d2, d3⟩ := hD
  have hDs : D.heap.size = wL.heap.size + 1 := by rw [dh]; simp
  have hblk : ∀ k, k < wL.heap.size → some k ≠ y.2.p.ownBlock → w1.heap[k]? = wL.heap[k]? := fun k hk hne => by rw [hgr.block k (by omega) hne, dh, heap_alloc_old _ _ hk]
  have hsz : wL.heap.size ≤ w1.heap.size := by have := hgr.size; omega
  have hat2 : y.2.p.ownBlock = some gg ∨ wL.heap.size ≤ gg := by
    rcases hat with e | e
    · exact .inl e
    · exact .inr (by omega)
  obtain ⟨hrep, hOg, _, _⟩ := rep_add hR hv hy hm hown hblk hsz hat2 hlt
  refine ⟨_, hrep.mono (fun k _ hk => ?_) (fun k hk => ?_), ?_⟩
  · rcases hk with e | e
    · exact .inl e
    · exact .inr ⟨by have := hbL.size; omega, by rw [setC_size]; exact e.2⟩
  · rcases hk with e | e
    · have := hO k e; have := hbL.size; rw [setC_size]; omega
    · exact e.2
  · refine ⟨hgr.os.trans (d1.trans hbL.os), hgr.tape.trans (d2.trans hbL.tape), hgr.output.trans (d3.trans hbL.output), by rw [setC_size]; have := hbL.size; omega, fun k hk hk2 => ?_⟩
    have := hbL.size
    rw [blk_far (fun e => hk2 (by rw [e]; exact hOg)), hblk k (by omega) (fun e => hk2 ((hR.row t y hy).op k e.symm)), hbL.block k hk]
set_option maxRecDepth 100000 in
set_option maxHeartbeats 20000000 in
theorem set_at {O : Nat → Prop} {w : World} {s : Nat} {fr : Int} {G : List (Th × Lay)} (h : Rep O w s fr G) (d k x : Ob) :
    Calls Try.prog 19 #[.pointer (some ⟨s, 0, none⟩), d.val, k.val, x.val] w (SetP O w s fr G d k x) := by
  have hb3 := below3 w (obC d) (obC k) (obC x)
  have HV := Lib.hid (valid_at (h.below hb3) x)
  have HB3 := Lib.hid (fun w4 hb => three (w := w) (w5 := w4) (a := obC d) (b := obC k) (c := obC x) hb)
  obtain ⟨tv, hv0⟩ := Rep.vw h
  have HE := Lib.hid (fun w4 (hb : Below w.heap.size w w4) => entry_at (h.below hb) (hv0.below hb) d k)
  have HR := Lib.hid (fun w5 (hb : Below w.heap.size w w5) => h.below hb)
  have HVw := Lib.hid (fun w5 (hb : Below w.heap.size w w5) => hv0.below hb)
  have HO := Lib.hid h.olt
  unfold obC at HV
  simp only [obC] at HB3 hb3
  have HBl := Lib.hid hb3
  unfold Ob.val at HV HE ⊢
  have hse : setE G d k x = if valid G x = true then (match tld G d 8 with
    | none => 21
    | some t => if (keyR G k).2 = 0 then (match G[t]? with
        | none => 21
        | some y => match idx y.1.pairs (keyR G k).1 with
          | some _ => 0
          | none => if (y.1.pairs.length : Int) = y.1.most then 1 else 0) else (keyR G k).2) else 21 := rfl
  have hsr : ∀ v, setR G d k x v = match tld G d 8 with
    | none => G
    | some t => match G[t]? with
      | none => G
      | some y => match idx y.1.pairs (keyR G k).1 with
        | some i => G.modify t (setF i (keyR G k).1 x)
        | none => G.modify t (addF (keyR G k).1 x v) := fun _ => rfl
  unfold entV at HE
  unfold SetP
  cases hvx : valid G x with
  | false =>
    rw [hvx, if_neg (by decide)] at hse
    rw [hse]
    rw [hvx] at HV
    clear h hv0 hb3 hsr hse hvx HE HR HVw
    go_enter Try.func19, Try.ntmps19
    go_wp2_with fail
    refine HV.out.mono ?_; rintro e w4 ⟨rfl, hb⟩
    have HB := Lib.hid (bthen HBl.out hb)
    clear hb
    go_wp2_with fail
    go_ret
    exact ⟨rfl, .inl ⟨by decide, HB.out⟩⟩
  | true =>
    rw [hvx, if_pos rfl] at hse
    rw [hvx] at HV
    cases ht : tld G d 8 with
    | none =>
      simp only [ht] at hse HE
      rw [hse]
      simp only [nul, Ob.val] at HE
      clear h hv0 hb3 hsr hse hvx ht HR HVw
      go_enter Try.func19, Try.ntmps19
      go_wp2_with fail
      refine HV.out.mono ?_; rintro e w4 ⟨rfl, hb⟩
      obtain ⟨y0, y1, y2⟩ := HB3.out w4 hb
      obtain ⟨q0, q1, q2, q3, q4, q5, q6, q7⟩ := cellsOb y0
      obtain ⟨r0, r1, r2, r3, r4, r5, r6, r7⟩ := cellsOb y1
      have HE4 := Lib.hid (HE.out w4 (bthen HBl.out hb))
      have HB4 := Lib.hid (bthen HBl.out hb)
      clear hb y0 y1 y2 HE
      go_wp2_with fail
      refine HE4.out.mono ?_; rintro e w5 ⟨rfl, hb5⟩
      have HB := Lib.hid ((bthen HB4.out hb5).trans ((below1 w5 (.cells #[.int .i64 0, .bool false, .int .i64 0, .int .i64 0, .string ⟨#[]⟩, .int .i64 0, .int .i64 0, .int .i64 0] 40)).mono (bthen HB4.out hb5).size))
      clear hb5 q0 q1 q2 q3 q4 q5 q6 q7 r0 r1 r2 r3 r4 r5 r6 r7
      go_wp2_with fail
      go_ret
      exact ⟨rfl, .inl ⟨by decide, HB.out⟩⟩
    | some t =>
      obtain ⟨_, _, _, y, hy, _⟩ := tld_bounds h ht
      simp only [ht, hy] at hse HE hsr
      generalize keyR G k = kr at *
      by_cases hk0 : kr.2 = 0
      · rw [if_pos hk0] at hse HE
        have hps := (h.row t y hy).np
        have hnm := (h.row t y hy).nm
        have HC := Lib.hid (fun w6 (hb : Below w.heap.size w w6) => vw_cells (HVw.out w6 hb) hy)
        have HTh := Lib.hid (fun w6 (hb : Below w.heap.size w w6) => (HR.out w6 hb).row t y hy)
        have hlt0 : blkOf tv < w.heap.size := World.block_lt_of_cell? w _ (vw_cells hv0 hy).1
        have HY := Lib.hid hy
        simp only [Ob.val] at HE
        cases hix : idx y.1.pairs kr.1 with
        | some i =>
          obtain ⟨p, hp, hpk⟩ := idx_some hix
          have hi : i < y.1.pairs.length := (List.getElem?_eq_some_iff.1 hp).1
          simp only [hix, idxI] at hse hsr HE
          rw [hse]
          simp only [hsr]
          have HPP := Lib.hid (And.intro hp hpk)
          have hix0 : 0 ≤ (i : Int) := by omega
          have hix1 : (i : Int) < (y.1.pairs.length : Int) := by omega
          clear h hv0 hb3 hsr hse hvx ht hp hpk hix hk0 hy
          go_enter Try.func19, Try.ntmps19
          go_wp2_with fail
          refine HV.out.mono ?_; rintro e w4 ⟨rfl, hb⟩
          obtain ⟨y0, y1, y2⟩ := HB3.out w4 hb
          obtain ⟨q0, q1, q2, q3, q4, q5, q6, q7⟩ := cellsOb y0
          obtain ⟨r0, r1, r2, r3, r4, r5, r6, r7⟩ := cellsOb y1
          have HE4 := Lib.hid (HE.out w4 (bthen HBl.out hb))
          have HB4 := Lib.hid (bthen HBl.out hb)
          have HX4 := Lib.hid y2
          clear hb y0 y1 y2 HE
          go_wp2_with fail
          refine HE4.out.mono ?_; rintro e w5 ⟨rfl, hb5⟩
          have hb6 := (bthen HB4.out hb5).trans ((below1 w5 (obC kr.1)).mono (bthen HB4.out hb5).size)
          have hx6 := (heap_alloc_old w5 (obC kr.1) (by have := hb5.size; have := (Array.getElem?_eq_some_iff.1 HX4.out).1; omega)).trans ((hb5.block _ (Array.getElem?_eq_some_iff.1 HX4.out).1).trans HX4.out)
          have hk6 := heap_alloc_new w5 (obC kr.1)
          unfold obC at hb6 hx6 hk6
          have HB6 := Lib.hid hb6
          clear hb5 q0 q1 q2 q3 q4 q5 q6 q7 r0 r1 r2 r3 r4 r5 r6 r7 HE4
          obtain ⟨_, _, _, _, c4, _⟩ := HC.out _ hb6
          have hth := HTh.out _ hb6
          obtain ⟨B, c, cur, ep, hB⟩ := pairs_block hth (by omega)
          have hsl := pairs_slot hth ep hi
          have hOB := hth.op B (by rw [ep]; rfl)
          rw [ep] at c4
          obtain ⟨x0, x1, x2, x3, x4, x5, x6, x7⟩ := cellsOb hx6
          have HF := Lib.hid (fun (q : Nat) (chs : Array Value) => fill_at (tp := .pointer (some ⟨blkOf tv, t * 7, none⟩)) ((HR.out _ hb6).below (below_draw (Below.refl _ _) q)) (hsl.below (below_draw (Below.refl _ _) q)) x chs)
          unfold Ob.val at HF
          have HEP := Lib.hid ep
          clear hb6 hth hB hsl ep hx6 hk6
          go_wp2_with fail
          go_region_with (first | (go_at_call 60; refine (HF.out _ _).mono ?_; rintro e w6 ⟨rfl, w7, hb7, rfl⟩))
          all_goals go_wp2_with fail
          all_goals go_ret
          all_goals
            have hb8 := bthen HB6.out (bthen (below_draw (Below.refl _ _) 1) hb7)
            have hrep := rep_set (HR.out _ hb8) HY.out HEP.out HPP.out.1 HPP.out.2 x
            exact ⟨rfl, .inr ⟨trivial, .nilIface, rep_up hrep HO.out (by rw [set8_size]; exact hb8.size), frm_set8 hb8 hOB⟩⟩
        | none =>
          simp only [hix, idxI] at hse hsr HE
          obtain ⟨pa, pc, ep⟩ := own_slice (h.row t y hy).rp
          by_cases hfull : (y.1.pairs.length : Int) = y.1.most
          · rw [if_pos hfull] at hse
            rw [hse]
            have hfb : ((y.1.pairs.length : Int) == y.1.most) = true := by simp [hfull]
            have HEP := Lib.hid ep
            clear h hv0 hb3 hsr hse hvx ht hix hk0 hy hfull ep
            go_enter Try.func19, Try.ntmps19
            go_wp2_with fail
            refine HV.out.mono ?_; rintro e w4 ⟨rfl, hb⟩
            obtain ⟨y0, y1, y2⟩ := HB3.out w4 hb
            obtain ⟨q0, q1, q2, q3, q4, q5, q6, q7⟩ := cellsOb y0
            obtain ⟨r0, r1, r2, r3, r4, r5, r6, r7⟩ := cellsOb y1
            have HE4 := Lib.hid (HE.out w4 (bthen HBl.out hb))
            have HB4 := Lib.hid (bthen HBl.out hb)
            have HX4 := Lib.hid y2
            clear hb y0 y1 y2 HE
            go_wp2_with fail
            refine HE4.out.mono ?_; rintro e w5 ⟨rfl, hb5⟩
            have HW45 := Lib.hid (bthen HB4.out hb5)
            have hb6 := (bthen HB4.out hb5).trans ((below1 w5 (obC kr.1)).mono (bthen HB4.out hb5).size)
            have hx6 := (heap_alloc_old w5 (obC kr.1) (by have := hb5.size; have := (Array.getElem?_eq_some_iff.1 HX4.out).1; omega)).trans ((hb5.block _ (Array.getElem?_eq_some_iff.1 HX4.out).1).trans HX4.out)
            have hk6 := heap_alloc_new w5 (obC kr.1)
            unfold obC at hb6 hx6 hk6
            have HB6 := Lib.hid hb6
            clear hb5 q0 q1 q2 q3 q4 q5 q6 q7 r0 r1 r2 r3 r4 r5 r6 r7 HE4
            obtain ⟨_, _, _, _, c4, c5, _⟩ := HC.out _ hb6
            rw [HEP.out] at c4
            clear hb6 hx6 hk6
            go_wp2_with fail
            go_quiet (fail)
            go_wp2_with fail
            go_ret
            exact ⟨rfl, .inl ⟨by decide, below_draw HB6.out _⟩⟩
          · rw [if_neg hfull] at hse
            rw [hse]
            simp only [hsr]
            have hfb : ((y.1.pairs.length : Int) == y.1.most) = false := by simp [hfull]
            have hml : (y.1.pairs.length : Int) < y.1.most := by omega
            have HEP := Lib.hid ep
            have HN := Lib.hid (fun w6 (hb : Below w.heap.size w w6) chs => note_at (g := blkOf tv) (HR.out w6 hb) (HC.out w6 hb).1 chs)
            clear h hv0 hb3 hsr hse hvx ht hix hk0 hy hfull ep
            go_enter Try.func19, Try.ntmps19
            go_wp2_with fail
            refine HV.out.mono ?_; rintro e w4 ⟨rfl, hb⟩
            obtain ⟨y0, y1, y2⟩ := HB3.out w4 hb
            obtain ⟨q0, q1, q2, q3, q4, q5, q6, q7⟩ := cellsOb y0
            obtain ⟨r0, r1, r2, r3, r4, r5, r6, r7⟩ := cellsOb y1
            have HE4 := Lib.hid (HE.out w4 (bthen HBl.out hb))
            have HB4 := Lib.hid (bthen HBl.out hb)
            have HX4 := Lib.hid y2
            clear hb y0 y1 y2 HE
            go_wp2_with fail
            refine HE4.out.mono ?_; rintro e w5 ⟨rfl, hb5⟩
            have HW45 := Lib.hid (bthen HB4.out hb5)
            have hb6 := (bthen HB4.out hb5).trans ((below1 w5 (obC kr.1)).mono (bthen HB4.out hb5).size)
            have hx6 := (heap_alloc_old w5 (obC kr.1) (by have := hb5.size; have := (Array.getElem?_eq_some_iff.1 HX4.out).1; omega)).trans ((hb5.block _ (Array.getElem?_eq_some_iff.1 HX4.out).1).trans HX4.out)
            have hk6 := heap_alloc_new w5 (obC kr.1)
            unfold obC at hb6 hx6 hk6
            have HB6 := Lib.hid hb6
            clear hb5 q0 q1 q2 q3 q4 q5 q6 q7 r0 r1 r2 r3 r4 r5 r6 r7 HE4
            obtain ⟨_, _, _, _, c4, c5, _⟩ := HC.out _ hb6
            rw [HEP.out] at c4
            have HN6 := Lib.hid (fun q => HN.out _ (below_draw hb6 q))
            have HX6 := Lib.hid hx6
            have hw45 : w.heap.size ≤ w5.heap.size := by have := hb6.size; have := (Array.getElem?_eq_some_iff.1 HX4.out).1; have := HW45.out.size; omega
            have HK6 := Lib.hid hk6
            have hK6s := (Array.getElem?_eq_some_iff.1 hk6).1
            have hX6s := (Array.getElem?_eq_some_iff.1 hx6).1
            clear hb6 hx6 hk6 HN
            go_wp2_with fail
            go_quiet (fail)
            go_wp2_with fail
            refine (HN6.out _ _).mono ?_; rintro e w7 ⟨rfl, hb7⟩
            have hbw7 := bthen (below_draw HB6.out _) hb7
            have hk7 := (hb7.block w5.heap.size (by exact hK6s)).trans HK6.out
            have hx7 := (hb7.block (w.heap.size + 1 + 1) (by exact hX6s)).trans HX6.out
            obtain ⟨kk0, kk1, kk2, kk3, kk4, kk5, kk6, kk7⟩ := cellsOb hk7
            obtain ⟨x0, x1, x2, x3, x4, x5, x6, x7⟩ := cellsOb hx7
            have HK7 := Lib.hid hk7
            have HX7 := Lib.hid hx7
            clear c4 c5
            obtain ⟨_, _, _, _, c4, _⟩ := HC.out w7 hbw7
            rw [HEP.out] at c4
            have HBW7 := Lib.hid hbw7
            have HL := Lib.hid (fun q => last_at (w := w7.drewN q) (HR.out _ (below_draw hbw7 q)))
            have hfd : ∀ w, (Instr.field 136 (.agg #[.int .i64 0, .int .i64 0, .int .i64 0, .int .i64 0]) 0).run Try.prog w = .ok (.int .i64 0) w := fun w => (mark_field w _ _ _ _).1
            obtain ⟨i0, hi0, hz0, hz1, hz2⟩ := info_parts pair_info
            have HI := Lib.hid (And.intro hi0 (And.intro hz0 (And.intro hz1 hz2)))
            have hgl : blkOf tv < w7.heap.size := by have := hbw7.size; omega
            have hneKt : w5.heap.size ≠ blkOf tv := by omega
            have hneXt : w.heap.size + 1 + 1 ≠ blkOf tv := by omega
            have hkl := (Array.getElem?_eq_some_iff.1 hk7).1
            have hxl := (Array.getElem?_eq_some_iff.1 hx7).1
            clear hb7 hbw7 hk7 hx7 hi0 hz0 hz1 hz2
            go_wp2_with fail
            go_cut [70] (fun _ wx => ∃ v, Rep (Up O w wx) wx s fr (G.modify t (addF kr.1 x v)) ∧ Frm O w wx)
            case first =>
              go_region_law
                (first
                  | (go_simp; go_at_call 63; refine (HL.out 1).mono ?_; rintro e wL ⟨rfl, hbL⟩; have hkL := (hbL.block w5.heap.size hkl).trans HK7.out; have hxL := (hbL.block (w.heap.size + 1 + 1) hxl).trans HX7.out; obtain ⟨l0, l1, l2, l3, l4, l5, l6, l7⟩ := cellsOb hkL; obtain ⟨m0, m1, m2, m3, m4, m5, m6, m7⟩ := cellsOb hxL; have hbwL := bthen (below_draw HBW7.out _) hbL; have hownL := (HTh.out wL hbwL).rp; rw [HEP.out] at hownL; have c4L := (HC.out wL hbwL).2.2.2.2.1; rw [HEP.out] at c4L; have hglL : blkOf tv < wL.heap.size := Nat.lt_of_lt_of_le hgl hbL.size)
                  | (refine step_append_lies _ (by rfl) _ _ _ (by rfl) 0 129 i0 _ 17 152 Try.underlying119 HI.out.1 HI.out.2.1 HI.out.2.2.1 HI.out.2.2.2 rfl (by omega) (.slice pa y.1.pairs.length pc) y.1.pairs.length (y.1.pairs.flatMap pairC) (by rfl) (hownL.alloc _)
                      ⟨wL.heap.size, 0, none⟩ 1 1 [.int .i64 kr.1.kind, .bool kr.1.exec, .int .i64 kr.1.acc, .int .i64 kr.1.n, .string kr.1.name, .int .i64 kr.1.ref, .int .i64 kr.1.frm, .int .i64 kr.1.len, .int .i64 x.kind, .bool x.exec, .int .i64 x.acc, .int .i64 x.n, .string x.name, .int .i64 x.ref, .int .i64 x.frm, .int .i64 x.len, .int .i64 0] (by rfl) (by rfl) (World.news_of_block (cs := #[.int .i64 kr.1.kind, .bool kr.1.exec, .int .i64 kr.1.acc, .int .i64 kr.1.n, .string kr.1.name, .int .i64 kr.1.ref, .int .i64 kr.1.frm, .int .i64 kr.1.len, .int .i64 x.kind, .bool x.exec, .int .i64 x.acc, .int .i64 x.n, .string x.name, .int .i64 x.ref, .int .i64 x.frm, .int .i64 x.len, .int .i64 0]) (t := 129) (fr := (0, 0)) (heap_alloc_new wL _)) (by simp [Value.oneCell'])
                      (by omega) (by unfold maxLen; omega) (by omega) (by simp) (wL.heap.size + 1) (by simp) ?_; intro gg cap w1 hown1 hgrow hat hlt1; have hkl1 := (Array.getElem?_eq_some_iff.1 hkL).1; have hxl1 := (Array.getElem?_eq_some_iff.1 hxL).1; have hK1 := (hgrow.block w5.heap.size (by simp; omega) (own_ne hkL hownL (by decide))).trans ((heap_alloc_old wL _ hkl1).trans hkL); have hX1 := (hgrow.block (w.heap.size + 1 + 1) (by simp; omega) (own_ne hxL hownL (by decide))).trans ((heap_alloc_old wL _ hxl1).trans hxL); have hTF := tv_facts (HR.out wL hbwL) (HVw.out wL hbwL) HY.out; rw [HEP.out] at hTF; have hb1 := hgrow.block (blkOf tv) (by simp; omega) hTF.1; have k4 : w1.cell? ⟨blkOf tv, t * 7 + 4, none⟩ = _ := (World.cell?_of_block (w := wL) (a := ⟨blkOf tv, t * 7 + 4, none⟩) (hb1.trans (heap_alloc_old wL _ hglL))).trans c4L; have f4 := (World.frozen?_of_block (w := wL) (a := ⟨blkOf tv, t * 7 + 4, none⟩) (hb1.trans (heap_alloc_old wL _ hglL))).trans (hTF.2.1 (t * 7 + 4))))
              all_goals go_wp2_with fail
              all_goals go_meet
              all_goals exact add_fin HO.out hbwL (HR.out wL hbwL) (HVw.out wL hbwL) HY.out HEP.out hml hown1 hgrow ⟨rfl, rfl, rfl, rfl⟩ hat (by omega) hlt1
            case rest =>
              go_wp2_with fail
              go_ret
              exact ⟨rfl, .inr ⟨trivial, hcut⟩⟩
      · rw [if_neg hk0] at hse HE
        rw [hse]
        have hkn : (kr.2 != 0) = true := by simp [hk0]
        simp only [nul, Ob.val] at HE
        have HK0 := Lib.hid hk0
        clear h hv0 hb3 hsr hse hvx ht HR HVw hk0
        go_enter Try.func19, Try.ntmps19
        go_wp2_with fail
        refine HV.out.mono ?_; rintro e w4 ⟨rfl, hb⟩
        obtain ⟨y0, y1, y2⟩ := HB3.out w4 hb
        obtain ⟨q0, q1, q2, q3, q4, q5, q6, q7⟩ := cellsOb y0
        obtain ⟨r0, r1, r2, r3, r4, r5, r6, r7⟩ := cellsOb y1
        have HE4 := Lib.hid (HE.out w4 (bthen HBl.out hb))
        have HB4 := Lib.hid (bthen HBl.out hb)
        clear hb y0 y1 y2 HE
        go_wp2_with fail
        refine HE4.out.mono ?_; rintro e w5 ⟨rfl, hb5⟩
        have HB := Lib.hid ((bthen HB4.out hb5).trans ((below1 w5 (.cells #[.int .i64 0, .bool false, .int .i64 0, .int .i64 0, .string ⟨#[]⟩, .int .i64 0, .int .i64 0, .int .i64 0] 40)).mono (bthen HB4.out hb5).size))
        clear hb5 q0 q1 q2 q3 q4 q5 q6 q7 r0 r1 r2 r3 r4 r5 r6 r7
        go_wp2_with fail
        go_ret
        exact ⟨rfl, .inl ⟨HK0.out, HB.out⟩⟩
end Go.Proofs.Ytlflkdmbbomjeaa
