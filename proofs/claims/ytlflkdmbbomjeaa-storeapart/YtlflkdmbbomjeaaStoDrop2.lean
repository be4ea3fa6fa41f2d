/-
  A pair is taken away, by a contract: Drop.
-/
import Derived.Test.YtlflkdmbbomjeaaStoDrop
namespace Go.Proofs.Ytlflkdmbbomjeaa
open Go.RowKit
open St
def DropP (O : Nat → Prop) (w : World) (s : Nat) (fr : Int) (G : List (Th × Lay)) (d k : Ob) (e : Ending) (w' : World) : Prop :=
  e = .returned (.int .i64 (dropE G d k)) ∧ ((dropE G d k ≠ 0 ∧ Below w.heap.size w w') ∨ (dropE G d k = 0 ∧ ∃ v, Rep (Up O w w') w' s fr (dropR G d k v) ∧ Frm O w w'))
set_option maxRecDepth 100000 in
set_option maxHeartbeats 1000000 in
theorem drop_at {O : Nat → Prop} {w : World} {s : Nat} {fr : Int} {G : List (Th × Lay)} (h : Rep O w s fr G) (d k : Ob) :
    Calls Try.prog 21 #[.pointer (some ⟨s, 0, none⟩), d.val, k.val] w (DropP O w s fr G d k) := by
  have hb2 := below2 w (obC d) (obC k)
  obtain ⟨tv, hv0⟩ := Rep.vw h
  have HE := Lib.hid (entry_at (h.below hb2) (hv0.below hb2) d k)
  have HR := Lib.hid (fun w5 (hb : Below w.heap.size w w5) => h.below hb)
  have HVw := Lib.hid (fun w5 (hb : Below w.heap.size w w5) => hv0.below hb)
  have HO := Lib.hid h.olt
  unfold obC at HE
  unfold Ob.val at HE ⊢
  have hse : dropE G d k = match tld G d 8 with
    | none => 21
    | some t => if (keyR G k).2 = 0 then (match G[t]? with
        | none => 21
        | some y => match idx y.1.pairs (keyR G k).1 with
          | some _ => 0
          | none => 17) else (keyR G k).2 := rfl
  have hsr : ∀ v, dropR G d k v = match tld G d 8 with
    | none => G
    | some t => match G[t]? with
      | none => G
      | some y => match idx y.1.pairs (keyR G k).1 with
        | some i => G.modify t (prsF (y.1.pairs.eraseIdx i) v)
        | none => G := fun _ => rfl
  unfold entV at HE
  unfold DropP
  cases ht : tld G d 8 with
  | none =>
    simp only [ht] at hse HE
    rw [hse]
    simp only [nul, Ob.val] at HE
    clear h hv0 hb2 hsr hse ht HR HVw
    go_enter Try.func21, Try.ntmps21
    go_wp2_with fail
    refine HE.out.mono ?_; rintro e w5 ⟨rfl, hb5⟩
    have HB := Lib.hid ((bthen (below2 w _ _) hb5).trans ((below1 w5 (.cells #[.int .i64 0, .bool false, .int .i64 0, .int .i64 0, .string ⟨#[]⟩, .int .i64 0, .int .i64 0, .int .i64 0] 40)).mono (bthen (below2 w _ _) hb5).size))
    clear hb5
    go_wp2_with fail
    go_ret
    exact ⟨rfl, .inl ⟨by decide, HB.out⟩⟩
  | some t =>
    obtain ⟨_, _, _, y, hy, _⟩ := tld_bounds h ht
    simp only [ht, hy] at hse HE hsr
    generalize keyR G k = kr at *
    by_cases hk0 : kr.2 = 0
    · rw [if_pos hk0] at hse HE
      simp only [Ob.val] at HE
      cases hix : idx y.1.pairs kr.1 with
      | none =>
        simp only [hix, idxI] at hse HE
        rw [hse]
        clear h hv0 hb2 hsr hse ht HR HVw hix hk0 hy
        go_enter Try.func21, Try.ntmps21
        go_wp2_with fail
        refine HE.out.mono ?_; rintro e w5 ⟨rfl, hb5⟩
        have HB := Lib.hid ((bthen (below2 w _ _) hb5).trans ((below1 w5 (obC kr.1)).mono (bthen (below2 w _ _) hb5).size))
        unfold obC at HB
        clear hb5
        go_wp2_with fail
        go_ret
        exact ⟨rfl, .inl ⟨by decide, HB.out⟩⟩
      | some i =>
        obtain ⟨p, hp, hpk⟩ := idx_some hix
        have hi : i < y.1.pairs.length := (List.getElem?_eq_some_iff.1 hp).1
        simp only [hix, idxI] at hse hsr HE
        rw [hse]
        simp only [hsr]
        have hps := (h.row t y hy).np
        have hnm := (h.row t y hy).nm
        have HP := Lib.hid hp
        have HY := Lib.hid hy
        have HC := Lib.hid (fun w6 (hb : Below w.heap.size w w6) => vw_cells (HVw.out w6 hb) hy)
        have HTh := Lib.hid (fun w6 (hb : Below w.heap.size w w6) => (HR.out w6 hb).row t y hy)
        have HN := Lib.hid (fun w6 (hb : Below w.heap.size w w6) chs => note_at (g := blkOf tv) (HR.out w6 hb) (HC.out w6 hb).1 chs)
        obtain ⟨n, hn⟩ : ∃ n, y.1.pairs.length = n := ⟨_, rfl⟩
        obtain ⟨r, hr⟩ : ∃ r, n = r + 1 := ⟨n - 1, by omega⟩
        have hix1 : (i : Int) < (n : Int) := by omega
        have hin : i < n := by omega
        have hn4 : n ≤ 4096 := by omega
        have HNR := Lib.hid (And.intro hn hr)
        have hel : (y.1.pairs.eraseIdx i).length = r := by rw [List.length_eraseIdx_of_lt hi]; omega
        have HEL := Lib.hid (And.intro hel (show ((y.1.pairs.eraseIdx i).length : Int) ≤ y.1.most by omega))
        clear h hv0 hb2 hsr hse ht hix hk0 hy hp hpk hi hel hn hr
        go_enter Try.func21, Try.ntmps21
        go_wp2_with fail
        refine HE.out.mono ?_; rintro e w5 ⟨rfl, hb5⟩
        have hb6 := (bthen (below2 w _ _) hb5).trans ((below1 w5 (obC kr.1)).mono (bthen (below2 w _ _) hb5).size)
        unfold obC at hb6
        obtain ⟨_, _, _, _, c4, _⟩ := HC.out _ hb6
        have hth := HTh.out _ hb6
        obtain ⟨B, c, cur, ep, hB⟩ := pairs_block hth (by have := HNR.out.1; omega)
        have hrp := hth.rp
        rw [ep] at c4 hrp
        have hpc : ∀ f, f < 17 → (w5.alloc (.cells #[.int .i64 kr.1.kind, .bool kr.1.exec, .int .i64 kr.1.acc, .int .i64 kr.1.n, .string kr.1.name, .int .i64 kr.1.ref, .int .i64 kr.1.frm, .int .i64 kr.1.len] 40)).cell? ⟨B, i * 17 + f, none⟩ = (pairC p)[f]? := fun f hf => by rw [hrp.cellAt (i * 17 + f) (by have := HNR.out.1; omega), pairs_at _ i f _ HP.out hf]
        rw [HNR.out.1] at c4 hrp ep
        have p0 := hpc 0 (by omega)
        have p1 := hpc 1 (by omega)
        have p2 := hpc 2 (by omega)
        have p3 := hpc 3 (by omega)
        have p4 := hpc 4 (by omega)
        have p5 := hpc 5 (by omega)
        have p6 := hpc 6 (by omega)
        have p7 := hpc 7 (by omega)
        have p8 := hpc 8 (by omega)
        have p9 := hpc 9 (by omega)
        have p10 := hpc 10 (by omega)
        have p11 := hpc 11 (by omega)
        have p12 := hpc 12 (by omega)
        have p13 := hpc 13 (by omega)
        have p14 := hpc 14 (by omega)
        have p15 := hpc 15 (by omega)
        have p16 := hpc 16 (by omega)
        simp only [pairC, Ob.cells, slotC, List.cons_append, List.nil_append, List.getElem?_cons_zero, List.getElem?_cons_succ, Nat.add_zero] at p0 p1 p2 p3 p4 p5 p6 p7 p8 p9 p10 p11 p12 p13 p14 p15 p16
        have HN6 := Lib.hid (HN.out _ hb6)
        have HB6 := Lib.hid hb6
        have HEP := Lib.hid ep
        clear hb5 hb6 hth hB hrp hpc ep HN
        go_wp2_with fail
        refine (HN6.out _).mono ?_; rintro e w7 ⟨rfl, hb7⟩
        have hbw := bthen HB6.out hb7
        obtain ⟨_, _, _, _, d4, _⟩ := HC.out _ hbw
        have hth := HTh.out _ hbw
        have hrp := hth.rp
        have hOB := hth.op B (by rw [HEP.out]; rfl)
        rw [HEP.out] at d4 hrp
        rw [HNR.out.1] at hrp
        have HD := Lib.hid (delete_at hrp HNR.out.1 hin HNR.out.2 hn4)
        have HBW := Lib.hid hbw
        clear hb7 hbw hth hrp c4 p0 p1 p2 p3 p4 p5 p6 p7 p8 p9 p10 p11 p12 p13 p14 p15 p16
        go_wp2_with fail
        refine HD.out.mono ?_; rintro e w8 ⟨rfl, hown8, hob8⟩
        obtain ⟨hTF1, hTF2, hTF3⟩ := tv_facts (HR.out _ HBW.out) (HVw.out _ HBW.out) HY.out
        rw [HEP.out] at hTF1
        have hneB : blkOf tv ≠ B := fun e => hTF1 (by rw [e]; rfl)
        have hgl : blkOf tv < w7.heap.size := World.block_lt_of_cell? w7 _ d4
        have k4 := (World.cell?_of_block (w := w7) (w' := w8) (a := ⟨blkOf tv, t * 7 + 4, none⟩) (hob8.far _ hgl hneB)).trans d4
        have f4 := (World.frozen?_of_block (w := w7) (w' := w8) (a := ⟨blkOf tv, t * 7 + 4, none⟩) (hob8.far _ hgl hneB)).trans (hTF2 (t * 7 + 4))
        have hBlt : B < w8.heap.size := owns_lt hown8 rfl
        rw [← HEL.out.1] at hown8
        have hrep := rep_prs (HR.out _ HBW.out) (HVw.out _ HBW.out) HY.out HEL.out.2 hown8 (fun q hq hne => hob8.far q hq (fun e => hne (by rw [HEP.out, e]; rfl))) hob8.size (.inl (by rw [HEP.out]; rfl)) hBlt
        rw [HEL.out.1] at hrep
        have HRep := Lib.hid hrep
        have HOb := Lib.hid (And.intro hob8 (And.intro hOB hTF3))
        clear hown8 hob8 hrep hTF1 hTF2 d4
        go_wp2_with fail
        go_ret
        refine ⟨rfl, .inr ⟨trivial, _, HRep.out.1.mono (fun q _ hq => ?_) (fun q hq => ?_), ?_⟩⟩
        · rcases hq with e | e
          · exact .inl e
          · exact .inr ⟨by have := HBW.out.size; omega, by rw [setC_size]; exact e.2⟩
        · rcases hq with e | e
          · have := HO.out q e; have := HBW.out.size; have := HOb.out.1.size; rw [setC_size]; omega
          · exact e.2
        · have h1 := HOb.out.1
          refine ⟨h1.os.trans HBW.out.os, h1.tape.trans HBW.out.tape, h1.output.trans HBW.out.output, by rw [setC_size]; have := HBW.out.size; have := h1.size; omega, fun q hq hq2 => ?_⟩
          have := HBW.out.size
          rw [blk_far (fun e => hq2 (by rw [e]; exact HOb.out.2.2)), h1.far q (by omega) (fun e => hq2 (by rw [e]; exact HOb.out.2.1)), HBW.out.block q hq]
    · rw [if_neg hk0] at hse HE
      rw [hse]
      have hkn : (kr.2 != 0) = true := by simp [hk0]
      simp only [nul, Ob.val] at HE
      have HK0 := Lib.hid hk0
      clear h hv0 hb2 hsr hse ht HR HVw hk0 hy
      go_enter Try.func21, Try.ntmps21
      go_wp2_with fail
      refine HE.out.mono ?_; rintro e w5 ⟨rfl, hb5⟩
      have HB := Lib.hid ((bthen (below2 w _ _) hb5).trans ((below1 w5 (.cells #[.int .i64 0, .bool false, .int .i64 0, .int .i64 0, .string ⟨#[]⟩, .int .i64 0, .int .i64 0, .int .i64 0] 40)).mono (bthen (below2 w _ _) hb5).size))
      clear hb5
      go_wp2_with fail
      go_ret
      exact ⟨rfl, .inl ⟨HK0.out, HB.out⟩⟩
end Go.Proofs.Ytlflkdmbbomjeaa
