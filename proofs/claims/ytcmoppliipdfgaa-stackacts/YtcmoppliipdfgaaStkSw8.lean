/-
  The switch of the law StackActs, case by case: Top.
-/
import Derived.Test.YtcmoppliipdfgaaStkSw1
namespace Go.Proofs.Ytcmoppliipdfgaa
open Go.RowKit
open St Stk
section
variable {w W : World} {M : Int} {va ma : Option Addr} {vc n0 i b mc : Nat} {l : List Ob} {x : Kc} {O : Nat → Prop} {a : Act}
set_option maxRecDepth 100000
set_option maxHeartbeats 2000000
theorem sw_top_yes {o : Ob} {K m : Nat} (h : InS w M va ma vc n0 i b mc l x O a W) (hdd : x.d = 4) (hN : x.n = K) (hKl : K < l.length) (hm : l.length - 1 - K = m) (ho : l[m]? = some o) : SwOk w M va vc n0 i a W := by
  intro J K' Q' hJ hK hQ
  obtain ⟨u, rfl⟩ := h.fr.out
  obtain ⟨z0, z1, z2, z3, z4⟩ := boxCells h.box
  rw [hdd] at z0
  have hb1 := below1 W (.cells zeroOb 40)
  have hk1 := h.kp.step hb1
  obtain ⟨qa, qc, hqk, _⟩ := hk1.sk.skc
  have HK := Lib.hid h.kp
  have HB1 := Lib.hid hb1
  have HO := Lib.hid h.kp.sk.olt
  have HZ := Lib.hid (heap_alloc_new W (.cells zeroOb 40))
  have HLL := Lib.hid h.ll
  have hi6 := h.i6
  have hll6 : l.length ≤ 6000 := by have := h.ll; omega
  have hbW : b < W.heap.size := (Array.getElem?_eq_some_iff.1 h.box).1
  have HBox := Lib.hid h.box
  have HNo := Lib.hid h.no
  rw [hN] at z1
  have HN := Lib.hid hN
  have HT := Lib.hid (top_yes hk1.sk hKl (by rw [hm]; exact ho))
  unfold SkO Ob.val at HT
  have HOo := Lib.hid ho
  have hml : m < l.length := by omega
  have e1 : (l.length : Int) - 1 - (K : Int) = m := by omega
  have hKi : ¬ (K : Int) < 0 := by omega
  have hKi2 : ¬ (l.length : Int) ≤ (K : Int) := by omega
  obtain ⟨pa, pc, pe, psrc, pnil, pcap⟩ := h.kp.row
  cases pe
  obtain ⟨mad, hma⟩ : ∃ ad, ma = some ad := by
    rcases psrc with e | ⟨ad, e, _⟩
    · rw [e] at hKl; simp at hKl
    · exact ⟨ad, e⟩
  subst hma
  unfold zeroOb at HT HB1 HZ
  clear h hb1 hk1 hqk hm psrc pnil ho hN
  conv => arg 2; whnf
  go_wp2_with fail
  refine HT.out.mono ?_; rintro e w5 ⟨rfl, hp⟩
  have hz5 := box_turn HO.out hp HZ.out
  obtain ⟨d0, d1, d2, d3, d4, d5, d6, d7, df⟩ := box_cells hz5
  have HB5 := Lib.hid (box_keep HB1.out HNo.out hp HBox.out)
  have hp8 := put8 hz5 (.int .i64 o.kind) (.bool o.exec) (.int .i64 o.acc) (.int .i64 o.n) (.string o.name) (.int .i64 o.ref) (.int .i64 o.frm) (.int .i64 o.len)
  have HSk := Lib.hid hp
  clear hp hz5
  go_upto_region 48 with (fail)
  generalize (World.setCell _ _ _) = W9 at hp8 ⊢
  obtain ⟨O', hk9⟩ := HK.out.box HB1.out HSk.out (Nat.le_refl _) (by simp) hp8.far hp8.size hp8.os hp8.tape hp8.output
  obtain ⟨y0, y1, y2, y3, y4, y5, y6, y7⟩ := cellsOb hp8.blk
  have HK9 := Lib.hid hk9
  obtain ⟨q0, q1, q2, q3, q4⟩ := boxCells ((hp8.far b (by omega)).trans HB5.out)
  rw [hdd] at q0
  have hb9 : b < W9.heap.size := World.block_lt_of_cell? W9 _ q0
  clear d0 d1 d2 d3 d4 d5 d6 d7 df hp8 hk9
  rw [HN.out] at q1
  obtain ⟨ra, rc, re, hra, _⟩ := HK9.out.row
  cases re
  have HSr := Lib.hid hra.src
  obtain ⟨t0, t1, t2, t3, t4, t5, t6, t7⟩ := src_obA hra.src HOo.out
  have hbl : (mad.add (m * 8)).block < W9.heap.size := World.block_lt_of_cell? W9 _ t0
  clear hra
  go_wp2_with fail
  refine Met.intro (hJ _ _ ⟨rfl, by kernel_rfl, by kernel_rfl, by kernel_rfl, by kernel_rfl, by kernel_rfl, by kernel_rfl, by kernel_rfl, ?_⟩)
  have hst := (HK9.out.step (below2 W9 (obC o) (obC nul))).step (below1 _ (obC o))
  have hs2 := src_one ((W9.alloc (obC o)).alloc (obC nul)) o
  rw [show ((W9.alloc (obC o)).alloc (obC nul)).heap.size = W9.heap.size + 1 + 1 by simp] at hs2
  exact ⟨O', l, [o], 0, hst, by have := HLL.out; omega, by kernel_rfl, by kernel_rfl, ⟨some ⟨W9.heap.size, 0, none⟩, 1, by kernel_rfl, (src_one W9 o).below (below2 _ _ _)⟩, ⟨some ⟨W9.heap.size + 1 + 1, 0, none⟩, 1, by kernel_rfl, hs2⟩, by simp⟩
end
end Go.Proofs.Ytcmoppliipdfgaa
