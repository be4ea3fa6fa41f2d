/-
  The switch of the law StackActs, case by case: Top, Pop.
-/
import Derived.Test.YtcmoppliipdfgaaStkSw1
namespace Go.Proofs.Ytcmoppliipdfgaa
open Go.RowKit
open St Stk
section
variable {w W : World} {M : Int} {va ma : Option Addr} {vc n0 i b mc : Nat} {l : List Ob} {x : Kc} {O : Nat → Prop} {a : Act}
set_option maxRecDepth 100000
set_option maxHeartbeats 2000000
theorem sw_top_neg (h : InS w M va ma vc n0 i b mc l x O a W) (hdd : x.d = 4) (hn : x.n < 0) : SwOk w M va vc n0 i a W := by
  intro J K' Q' hJ hK hQ
  obtain ⟨u, rfl⟩ := h.fr.out
  obtain ⟨z0, z1, z2, z3, z4⟩ := boxCells h.box
  rw [hdd] at z0
  have hb1 := below1 W (.cells zeroOb 40)
  have hk1 := h.kp.step hb1
  obtain ⟨qa, qc, hqk, _⟩ := hk1.sk.skc
  have HK := Lib.hid h.kp
  have HB1 := Lib.hid hb1
  have HO := Lib.hid h.kp.sk.olt
  have HZ := Lib.hid (heap_alloc_new W (.cells zeroOb 40))
  have HLL := Lib.hid h.ll
  have hi6 := h.i6
  have hll6 : l.length ≤ 6000 := by have := h.ll; omega
  have hbW : b < W.heap.size := (Array.getElem?_eq_some_iff.1 h.box).1
  have HBox := Lib.hid h.box
  have HNo := Lib.hid h.no
  have HT := Lib.hid (top_no hk1.sk (i := x.n) (x := 11) (fun w1 hb => (place_neg hn).mono fun _ _ ⟨he, hw⟩ => ⟨he, 0, hw⟩))
  unfold SkO nul Ob.val at HT
  unfold zeroOb at HT HB1 HZ
  clear h hb1 hk1 hqk
  conv => arg 2; whnf
  go_wp2_with fail
  refine HT.out.mono ?_; rintro e w5 ⟨rfl, hp⟩
  have hz5 := box_turn HO.out hp HZ.out
  obtain ⟨d0, d1, d2, d3, d4, d5, d6, d7, df⟩ := box_cells hz5
  have HB5 := Lib.hid (box_keep HB1.out HNo.out hp HBox.out)
  have hp8 := put8 hz5 (.int .i64 0) (.bool false) (.int .i64 0) (.int .i64 0) (.string ⟨#[]⟩) (.int .i64 0) (.int .i64 0) (.int .i64 0)
  have HSk := Lib.hid hp
  clear hp hz5
  go_upto_region 48 with (fail)
  generalize (World.setCell _ _ _) = W9 at hp8 ⊢
  obtain ⟨O', hk9⟩ := HK.out.box HB1.out HSk.out (Nat.le_refl _) (by simp) hp8.far hp8.size hp8.os hp8.tape hp8.output
  obtain ⟨y0, y1, y2, y3, y4, y5, y6, y7⟩ := cellsOb hp8.blk
  have HK9 := Lib.hid hk9
  obtain ⟨q0, q1, q2, q3, q4⟩ := boxCells ((hp8.far b (by omega)).trans HB5.out)
  rw [hdd] at q0
  have hb9 : b < W9.heap.size := World.block_lt_of_cell? W9 _ q0
  clear d0 d1 d2 d3 d4 d5 d6 d7 df hp8 hk9
  go_wp2_with fail
  refine Met.intro (hJ _ _ ⟨rfl, by kernel_rfl, by kernel_rfl, by kernel_rfl, by kernel_rfl, by kernel_rfl, by kernel_rfl, by kernel_rfl, ?_⟩)
  have hst := HK9.out.step (below2 W9 (obC nul) (obC nul))
  have hs2 := src_one (W9.alloc (obC nul)) nul
  rw [show (W9.alloc (obC nul)).heap.size = W9.heap.size + 1 by simp] at hs2
  exact ⟨O', l, [nul], 11, hst, by have := HLL.out; omega, by kernel_rfl, by kernel_rfl, ⟨some ⟨W9.heap.size, 0, none⟩, 1, by kernel_rfl, (src_one W9 nul).below (below1 _ _)⟩, ⟨some ⟨W9.heap.size + 1, 0, none⟩, 1, by kernel_rfl, hs2⟩, by simp⟩
theorem sw_top_far (h : InS w M va ma vc n0 i b mc l x O a W) (hdd : x.d = 4) (hn : 0 ≤ x.n) (hn2 : (l.length : Int) ≤ x.n) : SwOk w M va vc n0 i a W := by
  intro J K' Q' hJ hK hQ
  obtain ⟨u, rfl⟩ := h.fr.out
  obtain ⟨z0, z1, z2, z3, z4⟩ := boxCells h.box
  rw [hdd] at z0
  have hb1 := below1 W (.cells zeroOb 40)
  have hk1 := h.kp.step hb1
  obtain ⟨qa, qc, hqk, _⟩ := hk1.sk.skc
  have HK := Lib.hid h.kp
  have HB1 := Lib.hid hb1
  have HO := Lib.hid h.kp.sk.olt
  have HZ := Lib.hid (heap_alloc_new W (.cells zeroOb 40))
  have HLL := Lib.hid h.ll
  have hi6 := h.i6
  have hll6 : l.length ≤ 6000 := by have := h.ll; omega
  have hbW : b < W.heap.size := (Array.getElem?_eq_some_iff.1 h.box).1
  have HBox := Lib.hid h.box
  have HNo := Lib.hid h.no
  have HT := Lib.hid (top_no hk1.sk (i := x.n) (x := 13) (fun w1 hb => place_under (hqk.below hb) hn hn2))
  unfold SkO nul Ob.val at HT
  have hnn : ¬ x.n < 0 := by omega
  unfold zeroOb at HT HB1 HZ
  clear h hb1 hk1 hqk
  conv => arg 2; whnf
  go_wp2_with fail
  refine HT.out.mono ?_; rintro e w5 ⟨rfl, hp⟩
  have hz5 := box_turn HO.out hp HZ.out
  obtain ⟨d0, d1, d2, d3, d4, d5, d6, d7, df⟩ := box_cells hz5
  have HB5 := Lib.hid (box_keep HB1.out HNo.out hp HBox.out)
  have hp8 := put8 hz5 (.int .i64 0) (.bool false) (.int .i64 0) (.int .i64 0) (.string ⟨#[]⟩) (.int .i64 0) (.int .i64 0) (.int .i64 0)
  have HSk := Lib.hid hp
  clear hp hz5
  go_upto_region 48 with (fail)
  generalize (World.setCell _ _ _) = W9 at hp8 ⊢
  obtain ⟨O', hk9⟩ := HK.out.box HB1.out HSk.out (Nat.le_refl _) (by simp) hp8.far hp8.size hp8.os hp8.tape hp8.output
  obtain ⟨y0, y1, y2, y3, y4, y5, y6, y7⟩ := cellsOb hp8.blk
  have HK9 := Lib.hid hk9
  obtain ⟨q0, q1, q2, q3, q4⟩ := boxCells ((hp8.far b (by omega)).trans HB5.out)
  rw [hdd] at q0
  have hb9 : b < W9.heap.size := World.block_lt_of_cell? W9 _ q0
  clear d0 d1 d2 d3 d4 d5 d6 d7 df hp8 hk9
  go_wp2_with fail
  refine Met.intro (hJ _ _ ⟨rfl, by kernel_rfl, by kernel_rfl, by kernel_rfl, by kernel_rfl, by kernel_rfl, by kernel_rfl, by kernel_rfl, ?_⟩)
  have hst := HK9.out.step (below2 W9 (obC nul) (obC nul))
  have hs2 := src_one (W9.alloc (obC nul)) nul
  rw [show (W9.alloc (obC nul)).heap.size = W9.heap.size + 1 by simp] at hs2
  exact ⟨O', l, [nul], 13, hst, by have := HLL.out; omega, by kernel_rfl, by kernel_rfl, ⟨some ⟨W9.heap.size, 0, none⟩, 1, by kernel_rfl, (src_one W9 nul).below (below1 _ _)⟩, ⟨some ⟨W9.heap.size + 1, 0, none⟩, 1, by kernel_rfl, hs2⟩, by simp⟩
theorem sw_pop_no (h : InS w M va ma vc n0 i b mc l x O a W) (hdd : x.d = 2) (hl : l = []) : SwOk w M va vc n0 i a W := by
  intro J K' Q' hJ hK hQ
  obtain ⟨u, rfl⟩ := h.fr.out
  obtain ⟨z0, z1, z2, z3, z4⟩ := boxCells h.box
  rw [hdd] at z0
  have hb1 := below1 W (.cells zeroOb 40)
  have hk1 := h.kp.step hb1
  obtain ⟨qa, qc, hqk, _⟩ := hk1.sk.skc
  have HK := Lib.hid h.kp
  have HB1 := Lib.hid hb1
  have HO := Lib.hid h.kp.sk.olt
  have HZ := Lib.hid (heap_alloc_new W (.cells zeroOb 40))
  have HLL := Lib.hid h.ll
  have hi6 := h.i6
  have hll6 : l.length ≤ 6000 := by have := h.ll; omega
  have hbW : b < W.heap.size := (Array.getElem?_eq_some_iff.1 h.box).1
  have HBox := Lib.hid h.box
  have HNo := Lib.hid h.no
  subst hl
  have HT := Lib.hid (pop_no hk1.sk)
  unfold SkO nul Ob.val at HT
  simp only [List.length_nil, Int.natCast_zero] at *
  unfold zeroOb at HT HB1 HZ
  clear h hb1 hk1 hqk
  conv => arg 2; whnf
  go_wp2_with fail
  refine HT.out.mono ?_; rintro e w5 ⟨rfl, hp⟩
  have hz5 := box_turn HO.out hp HZ.out
  obtain ⟨d0, d1, d2, d3, d4, d5, d6, d7, df⟩ := box_cells hz5
  have HB5 := Lib.hid (box_keep HB1.out HNo.out hp HBox.out)
  have hp8 := put8 hz5 (.int .i64 0) (.bool false) (.int .i64 0) (.int .i64 0) (.string ⟨#[]⟩) (.int .i64 0) (.int .i64 0) (.int .i64 0)
  have HSk := Lib.hid hp
  clear hp hz5
  go_upto_region 29 with (fail)
  generalize (World.setCell _ _ _) = W9 at hp8 ⊢
  obtain ⟨O', hk9⟩ := HK.out.box HB1.out HSk.out (Nat.le_refl _) (by simp) hp8.far hp8.size hp8.os hp8.tape hp8.output
  obtain ⟨y0, y1, y2, y3, y4, y5, y6, y7⟩ := cellsOb hp8.blk
  have HK9 := Lib.hid hk9
  obtain ⟨q0, q1, q2, q3, q4⟩ := boxCells ((hp8.far b (by omega)).trans HB5.out)
  rw [hdd] at q0
  have hb9 : b < W9.heap.size := World.block_lt_of_cell? W9 _ q0
  clear d0 d1 d2 d3 d4 d5 d6 d7 df hp8 hk9
  go_wp2_with fail
  refine Met.intro (hJ _ _ ⟨rfl, by kernel_rfl, by kernel_rfl, by kernel_rfl, by kernel_rfl, by kernel_rfl, by kernel_rfl, by kernel_rfl, ?_⟩)
  have hst := HK9.out.step (below2 W9 (obC nul) (obC nul))
  have hs2 := src_one (W9.alloc (obC nul)) nul
  rw [show (W9.alloc (obC nul)).heap.size = W9.heap.size + 1 by simp] at hs2
  exact ⟨O', [], [nul], 13, hst, by simp, by kernel_rfl, by kernel_rfl, ⟨some ⟨W9.heap.size, 0, none⟩, 1, by kernel_rfl, (src_one W9 nul).below (below1 _ _)⟩, ⟨some ⟨W9.heap.size + 1, 0, none⟩, 1, by kernel_rfl, hs2⟩, by simp⟩
theorem sw_pop_yes {o : Ob} {m : Nat} (h : InS w M va ma vc n0 i b mc l x O a W) (hdd : x.d = 2) (hm : l.length = m + 1) (ho : l[m]? = some o) : SwOk w M va vc n0 i a W := by
  intro J K' Q' hJ hK hQ
  obtain ⟨u, rfl⟩ := h.fr.out
  obtain ⟨z0, z1, z2, z3, z4⟩ := boxCells h.box
  rw [hdd] at z0
  have hb1 := below1 W (.cells zeroOb 40)
  have hk1 := h.kp.step hb1
  obtain ⟨qa, qc, hqk, _⟩ := hk1.sk.skc
  have HK := Lib.hid h.kp
  have HB1 := Lib.hid hb1
  have HO := Lib.hid h.kp.sk.olt
  have HZ := Lib.hid (heap_alloc_new W (.cells zeroOb 40))
  have HLL := Lib.hid h.ll
  have hi6 := h.i6
  have hll6 : l.length ≤ 6000 := by have := h.ll; omega
  have hbW : b < W.heap.size := (Array.getElem?_eq_some_iff.1 h.box).1
  have HBox := Lib.hid h.box
  have HNo := Lib.hid h.no
  have HT := Lib.hid (pop_yes hk1.sk hm ho)
  unfold SkO Ob.val at HT
  have HM := Lib.hid hm
  have HOo := Lib.hid ho
  have hpos : (1 : Int) ≤ (l.length : Int) := by omega
  have e1 : (l.length : Int) - 1 = m := by omega
  obtain ⟨pa, pc, pe, psrc, pnil, pcap⟩ := h.kp.row
  have HRow := Lib.hid (And.intro psrc (And.intro pnil pcap))
  cases pe
  obtain ⟨mad, hma⟩ : ∃ ad, ma = some ad := by
    rcases psrc with e | ⟨ad, e, _⟩
    · rw [e] at hm; simp at hm
    · exact ⟨ad, e⟩
  subst hma
  have hmc : m + 1 ≤ mc := by omega
  unfold zeroOb at HT HB1 HZ
  clear h hb1 hk1 hqk hm psrc pnil ho
  conv => arg 2; whnf
  go_wp2_with fail
  refine HT.out.mono ?_; rintro e w5 ⟨rfl, hp⟩
  have hz5 := box_turn HO.out hp HZ.out
  obtain ⟨d0, d1, d2, d3, d4, d5, d6, d7, df⟩ := box_cells hz5
  have HB5 := Lib.hid (box_keep HB1.out HNo.out hp HBox.out)
  have hp8 := put8 hz5 (.int .i64 o.kind) (.bool o.exec) (.int .i64 o.acc) (.int .i64 o.n) (.string o.name) (.int .i64 o.ref) (.int .i64 o.frm) (.int .i64 o.len)
  have HSk := Lib.hid hp
  clear hp hz5
  go_upto_region 29 with (fail)
  generalize (World.setCell _ _ _) = W9 at hp8 ⊢
  obtain ⟨O', hk9⟩ := HK.out.box HB1.out HSk.out (Nat.le_refl _) (by simp) hp8.far hp8.size hp8.os hp8.tape hp8.output
  obtain ⟨y0, y1, y2, y3, y4, y5, y6, y7⟩ := cellsOb hp8.blk
  have HK9 := Lib.hid hk9
  obtain ⟨q0, q1, q2, q3, q4⟩ := boxCells ((hp8.far b (by omega)).trans HB5.out)
  rw [hdd] at q0
  have hb9 : b < W9.heap.size := World.block_lt_of_cell? W9 _ q0
  clear d0 d1 d2 d3 d4 d5 d6 d7 df hp8 hk9
  go_wp2_with fail
  refine Met.intro (hJ _ _ ⟨rfl, by kernel_rfl, by kernel_rfl, by kernel_rfl, by kernel_rfl, by kernel_rfl, by kernel_rfl, by kernel_rfl, ?_⟩)
  have hst := (HK9.out.cut (m := m) (by have := HM.out; omega)).step (below1 W9 (obC o))
  have hsl := (HK9.out.step (below1 W9 (obC o))).row
  obtain ⟨ra, rc, re, hra, _⟩ := hsl
  cases re
  have hdr : l.drop m = [o] := by
    have h1 := HM.out
    apply List.ext_getElem?
    intro k
    rw [List.getElem?_drop]
    cases k with
    | zero => simpa using HOo.out
    | succ k => rw [List.getElem?_eq_none (by omega)]; simp
  have hs2 := src_dropA hra.src m
  rw [hdr] at hs2
  exact ⟨O', l.take m, [o], 0, hst, by rw [List.length_take]; have := HLL.out; omega, by kernel_rfl, by kernel_rfl, ⟨some ⟨W9.heap.size, 0, none⟩, 1, by kernel_rfl, src_one W9 o⟩, ⟨some (mad.add (m * 8)), mc - m, Eq.trans (b := .slice (some (mad.add (m * 8))) (l.length - m) (mc - m)) (by kernel_rfl) (by rw [show l.length - m = 1 by have := HM.out; omega]; rfl), hs2⟩, by simp⟩
end
end Go.Proofs.Ytcmoppliipdfgaa
