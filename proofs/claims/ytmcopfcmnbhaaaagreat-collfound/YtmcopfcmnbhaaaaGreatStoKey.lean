/-
  What stands for an object as a key, by contracts: nameOf, Key.
-/
import Derived.Test.YtmcopfcmnbhaaaaGreatStoAns
namespace Go.Proofs.YtmcopfcmnbhaaaaGreat
open Go.RowKit
open St
def nameOb (b : List UInt8) : Ob := ⟨5, false, 0, 0, ⟨b.toArray⟩, 0, 0, 0⟩
def nameR (G : List (Th × Lay)) (k : Ob) : Ob × Int := if 127 < k.len then (nul, 9) else (nameOb (bytesR G k), 0)
def plainR (k : Ob) : Ob × Int := if k.kind = 2 ∧ k.n.tmod 65536 = 0 then (⟨1, false, 0, wrap64 (k.n.tdiv 65536), ⟨#[]⟩, 0, 0, 0⟩, 0) else (⟨k.kind, false, 0, k.n, k.name, k.ref, k.frm, k.len⟩, 0)
def keyR (G : List (Th × Lay)) (k : Ob) : Ob × Int := if valid G k = true then (if k.kind = 0 then (nul, 16) else if k.kind = 6 then nameR G k else plainR k) else (nul, 21)
theorem bytesR_len {O : Nat → Prop} {w : World} {s : Nat} {fr : Int} {G : List (Th × Lay)} {o : Ob} {t : Nat} (h : Rep O w s fr G) (ht : tld G o 6 = some t) : ((bytesR G o).length : Int) = o.len := by
  obtain ⟨b1, b2, b3, y, hy, hyk, hyl, hyL⟩ := tld_bounds h ht
  have hil := bytes_len6 hyk
  unfold bytesR
  rw [ht]
  simp only [hy]
  simp
  omega
set_option maxRecDepth 100000 in
set_option maxHeartbeats 1000000 in
theorem nameOf_at {O : Nat → Prop} {w : World} {s t : Nat} {fr : Int} {G : List (Th × Lay)} {k : Ob} (h : Rep O w s fr G) (ht : tld G k 6 = some t) :
    Calls Tryz.prog 94 #[.pointer (some ⟨s, 0, none⟩), k.val] w (ObE (nameR G k) w) := by
  have h2 := h.below (below2 w (obC k) (.cells zeroOb 41))
  have HY := Lib.hid (bytes_at h2 k)
  have hbl := bytesR_len h ht
  unfold nameR
  unfold obC zeroOb at HY
  unfold Ob.val at HY ⊢
  unfold ObE
  by_cases hl : 127 < k.len
  · rw [if_pos hl]
    clear HY h2 h hbl ht
    go_enter Tryz.func94, Tryz.ntmps94
    go_wp2_with fail
    exact bodyPost_ret (results_ob2 Tryz.results94 _ _ (w.heap.size + 1) rfl rfl (alloc_at (by simp))) rfl ⟨rfl, below2 w _ _⟩
  · rw [if_neg hl]
    have HBL := Lib.hid hbl
    have HTT := Lib.hid ht
    have hln : ¬ 127 < k.len := hl
    clear h2 h hbl ht hl
    go_enter Tryz.func94, Tryz.ntmps94
    go_wp2_with fail
    refine HY.out.mono ?_; rintro e w3 hP
    obtain ⟨hb3, hor⟩ := hP
    rcases hor with ⟨hno, _⟩ | ⟨B, hBl, _, rfl, hB⟩
    · have := HTT.out; rw [hno] at this; cases this
    · have hcv := conv_bytes (c := (bytesR G k).length) hB
      have HBz := Lib.hid (below_z hb3).2
      obtain ⟨d0, d1, d2, d3, d4, d5, d6, d7, df⟩ := box_cells (below_z hb3).2
      have HB := Lib.hid (bthen (below2 w _ _) hb3)
      clear hb3 hB
      go_wp2_with fail
      have hp := put8 HBz.out (.int .i64 5) (.bool false) (.int .i64 0) (.int .i64 0) (.string ⟨(bytesR G k).toArray⟩) (.int .i64 0) (.int .i64 0) (.int .i64 0)
      exact bodyPost_ret (results_ob2 Tryz.results94 _ _ (w.heap.size + 1) rfl rfl hp.blk) rfl ⟨rfl, below_put8 HB.out (by omega) hp⟩
set_option maxRecDepth 100000 in
set_option maxHeartbeats 1000000 in
theorem key_at {O : Nat → Prop} {w : World} {s : Nat} {fr : Int} {G : List (Th × Lay)} (h : Rep O w s fr G) (k : Ob) :
    Calls Tryz.prog 66 #[.pointer (some ⟨s, 0, none⟩), k.val] w (ObE (keyR G k) w) := by
  have h2 := h.below (below2 w (obC k) (.cells zeroOb 41))
  have HV := Lib.hid (valid_at h2 k)
  have HR := Lib.hid (fun w3 hb => h2.below (w' := w3) hb)
  have HBX := Lib.hid (show ∀ w3, Below ((w.alloc (obC k)).alloc (.cells zeroOb 41)).heap.size ((w.alloc (obC k)).alloc (.cells zeroOb 41)) w3 → w3.heap[w.heap.size]? = some (obC k) ∧ w3.heap[w.heap.size + 1]? = some (.cells zeroOb 41 (0, 0)) from fun w3 hb => below_z hb)
  have hkr : keyR G k = if valid G k = true then (if k.kind = 0 then (nul, 16) else if k.kind = 6 then nameR G k else plainR k) else (nul, 21) := rfl
  have hvd : valid G k = if k.kind = 6 ∨ k.kind = 7 ∨ k.kind = 8 then (tld G k k.kind).isSome else true := rfl
  unfold ObE
  generalize keyR G k = r at *
  unfold obC zeroOb at HV HR
  simp only [obC, zeroOb] at HBX
  unfold Ob.val at HV ⊢
  cases hv : valid G k with
  | false =>
    rw [hv, if_neg (by decide)] at hkr
    subst hkr
    rw [hv] at HV
    clear hv hvd h h2 HR
    go_enter Tryz.func66, Tryz.ntmps66
    go_wp2_with fail
    refine HV.out.mono ?_; rintro e w3 ⟨rfl, hb3⟩
    have HBz := Lib.hid (HBX.out w3 hb3).2
    obtain ⟨d0, d1, d2, d3, d4, d5, d6, d7, df⟩ := box_cells (HBX.out w3 hb3).2
    have HB := Lib.hid (bthen (below2 w _ _) hb3)
    clear hb3
    go_wp2_with fail
    have hp := put8 HBz.out (.int .i64 0) (.bool false) (.int .i64 0) (.int .i64 0) (.string ⟨#[]⟩) (.int .i64 0) (.int .i64 0) (.int .i64 0)
    exact bodyPost_ret (results_ob2 Tryz.results66 _ _ (w.heap.size + 1) rfl rfl hp.blk) rfl ⟨rfl, below_put8 HB.out (by omega) hp⟩
  | true =>
    rw [hv, if_pos rfl] at hkr
    rw [hv] at HV hvd
    by_cases k0 : k.kind = 0
    · rw [if_pos k0] at hkr
      subst hkr
      have HK := Lib.hid k0
      clear hv hvd h h2 HR k0
      go_enter Tryz.func66, Tryz.ntmps66
      go_wp2_with fail
      refine HV.out.mono ?_; rintro e w3 ⟨rfl, hb3⟩
      have HBz := Lib.hid (HBX.out w3 hb3).2
      obtain ⟨d0, d1, d2, d3, d4, d5, d6, d7, df⟩ := box_cells (HBX.out w3 hb3).2
      obtain ⟨q0, q1, q2, q3, q4, q5, q6, q7⟩ := cellsOb (HBX.out w3 hb3).1
      rw [HK.out] at q0
      have HB := Lib.hid (bthen (below2 w _ _) hb3)
      clear hb3
      go_wp2_with fail
      have hp := put8 HBz.out (.int .i64 0) (.bool false) (.int .i64 0) (.int .i64 0) (.string ⟨#[]⟩) (.int .i64 0) (.int .i64 0) (.int .i64 0)
      exact bodyPost_ret (results_ob2 Tryz.results66 _ _ (w.heap.size + 1) rfl rfl hp.blk) rfl ⟨rfl, below_put8 HB.out (by omega) hp⟩
    · rw [if_neg k0] at hkr
      by_cases k6 : k.kind = 6
      · rw [if_pos k6] at hkr
        rw [if_pos (.inl k6), k6] at hvd
        obtain ⟨t, ht⟩ := Option.isSome_iff_exists.1 hvd.symm
        have HN := Lib.hid (fun w3 hb => nameOf_at (w := w3) (HR.out w3 hb) ht)
        unfold ObE Ob.val at HN
        rw [← hkr] at HN
        have HK := Lib.hid k6
        clear hv hvd h h2 HR k0 k6 hkr ht
        go_enter Tryz.func66, Tryz.ntmps66
        go_wp2_with fail
        refine HV.out.mono ?_; rintro e w3 ⟨rfl, hb3⟩
        obtain ⟨q0, q1, q2, q3, q4, q5, q6, q7⟩ := cellsOb (HBX.out w3 hb3).1
        have HN3 := Lib.hid (HN.out w3 hb3)
        rw [HK.out] at q0 HN3
        have HB3 := Lib.hid hb3
        clear hb3 HN
        go_wp2_with fail
        refine HN3.out.mono ?_; rintro e w4 ⟨rfl, hb4⟩
        have hbb := bthen HB3.out hb4
        have HBz := Lib.hid (HBX.out w4 hbb).2
        obtain ⟨d0, d1, d2, d3, d4, d5, d6, d7, df⟩ := box_cells (HBX.out w4 hbb).2
        have HB := Lib.hid (bthen (below2 w _ _) hbb)
        clear hb4 hbb q0 q1 q2 q3 q4 q5 q6 q7
        go_wp2_with fail
        have hp := put8 HBz.out (.int .i64 r.1.kind) (.bool r.1.exec) (.int .i64 r.1.acc) (.int .i64 r.1.n) (.string r.1.name) (.int .i64 r.1.ref) (.int .i64 r.1.frm) (.int .i64 r.1.len)
        exact bodyPost_ret (results_ob2 Tryz.results66 _ _ (w.heap.size + 1) rfl rfl hp.blk) rfl ⟨rfl, below_put8 HB.out (by omega) hp⟩
      · rw [if_neg k6] at hkr
        have e0 : (k.kind == 0) = false := by simp [k0]
        have e6 : (k.kind == 6) = false := by simp [k6]
        have hpr : plainR k = if k.kind = 2 ∧ k.n.tmod 65536 = 0 then (⟨1, false, 0, wrap64 (k.n.tdiv 65536), ⟨#[]⟩, 0, 0, 0⟩, 0) else (⟨k.kind, false, 0, k.n, k.name, k.ref, k.frm, k.len⟩, 0) := rfl
        rw [hpr] at hkr
        by_cases k2 : k.kind = 2
        · have HK := Lib.hid k2
          by_cases km : k.n.tmod 65536 = 0
          · rw [if_pos ⟨k2, km⟩] at hkr
            subst hkr
            have hmd : (k.n.tmod 65536 == 0) = true := by simp [km]
            clear hv hvd h h2 HR k0 k6 k2 hpr e0 e6
            go_enter Tryz.func66, Tryz.ntmps66
            go_wp2_with fail
            refine HV.out.mono ?_; rintro e w3 ⟨rfl, hb3⟩
            have HBz := Lib.hid (HBX.out w3 hb3).2
            have HBo := Lib.hid (HBX.out w3 hb3).1
            obtain ⟨d0, d1, d2, d3, d4, d5, d6, d7, df⟩ := box_cells (HBX.out w3 hb3).2
            obtain ⟨q0, q1, q2, q3, q4, q5, q6, q7⟩ := cellsOb (HBX.out w3 hb3).1
            have qf := blk_free (HBX.out w3 hb3).1
            rw [HK.out] at q0
            have HB := Lib.hid (bthen (below2 w _ _) hb3)
            clear hb3
            go_wp2_with fail
            have hp := put8 HBz.out (.int .i64 1) (.bool false) (.int .i64 0) (.int .i64 (wrap64 (k.n.tdiv 65536))) (.string ⟨#[]⟩) (.int .i64 0) (.int .i64 0) (.int .i64 0)
            exact bodyPost_ret (results_ob2 Tryz.results66 _ _ (w.heap.size + 1) rfl rfl hp.blk) rfl ⟨rfl, below_put8 HB.out (by omega) hp⟩
          · rw [if_neg (fun e => km e.2)] at hkr
            subst hkr
            have hmd : (k.n.tmod 65536 == 0) = false := by simp [km]
            clear hv hvd h h2 HR k0 k6 k2 hpr e0 e6 km
            go_enter Tryz.func66, Tryz.ntmps66
            go_wp2_with fail
            refine HV.out.mono ?_; rintro e w3 ⟨rfl, hb3⟩
            have HBz := Lib.hid (HBX.out w3 hb3).2
            have HBo := Lib.hid (HBX.out w3 hb3).1
            obtain ⟨d0, d1, d2, d3, d4, d5, d6, d7, df⟩ := box_cells (HBX.out w3 hb3).2
            obtain ⟨q0, q1, q2, q3, q4, q5, q6, q7⟩ := cellsOb (HBX.out w3 hb3).1
            have qf := blk_free (HBX.out w3 hb3).1
            rw [HK.out] at q0
            have HB := Lib.hid (bthen (below2 w _ _) hb3)
            clear hb3
            go_wp2_with fail
            have hz2 : ((w3.setCell ⟨w.heap.size, 1, none⟩ (.bool false)).setCell ⟨w.heap.size, 2, none⟩ (.int .i64 0)).heap[w.heap.size + 1]? = some (.cells zeroOb 41 (0, 0)) := by rw [blk_far (by omega), blk_far (by omega)]; exact HBz.out
            have hp := put8 hz2 (.int .i64 2) (.bool false) (.int .i64 0) (.int .i64 k.n) (.string k.name) (.int .i64 k.ref) (.int .i64 k.frm) (.int .i64 k.len)
            exact bodyPost_ret (results_ob2 Tryz.results66 _ _ (w.heap.size + 1) rfl rfl hp.blk) rfl ⟨by rw [HK.out]; rfl, below_put8 (below_set (below_set HB.out (by simp) _) (by simp) _) (by omega) hp⟩
        · rw [if_neg (fun e => k2 e.1)] at hkr
          subst hkr
          have e2 : (k.kind == 2) = false := by simp [k2]
          clear hv hvd h h2 HR k0 k6 k2 hpr
          go_enter Tryz.func66, Tryz.ntmps66
          go_wp2_with fail
          refine HV.out.mono ?_; rintro e w3 ⟨rfl, hb3⟩
          have HBz := Lib.hid (HBX.out w3 hb3).2
          have HBo := Lib.hid (HBX.out w3 hb3).1
          obtain ⟨d0, d1, d2, d3, d4, d5, d6, d7, df⟩ := box_cells (HBX.out w3 hb3).2
          obtain ⟨q0, q1, q2, q3, q4, q5, q6, q7⟩ := cellsOb (HBX.out w3 hb3).1
          have qf := blk_free (HBX.out w3 hb3).1
          have HB := Lib.hid (bthen (below2 w _ _) hb3)
          clear hb3
          go_wp2_with fail
          have hz2 : ((w3.setCell ⟨w.heap.size, 1, none⟩ (.bool false)).setCell ⟨w.heap.size, 2, none⟩ (.int .i64 0)).heap[w.heap.size + 1]? = some (.cells zeroOb 41 (0, 0)) := by rw [blk_far (by omega), blk_far (by omega)]; exact HBz.out
          have hp := put8 hz2 (.int .i64 k.kind) (.bool false) (.int .i64 0) (.int .i64 k.n) (.string k.name) (.int .i64 k.ref) (.int .i64 k.frm) (.int .i64 k.len)
          exact bodyPost_ret (results_ob2 Tryz.results66 _ _ (w.heap.size + 1) rfl rfl hp.blk) rfl ⟨rfl, below_put8 (below_set (below_set HB.out (by simp) _) (by simp) _) (by omega) hp⟩
end Go.Proofs.YtmcopfcmnbhaaaaGreat
