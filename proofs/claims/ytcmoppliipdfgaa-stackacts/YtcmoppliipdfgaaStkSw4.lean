/-
  The switch of the law StackActs, case by case: Swap, Reset.
-/
import Derived.Test.YtcmoppliipdfgaaStkSw1
namespace Go.Proofs.Ytcmoppliipdfgaa
open Go.RowKit
open St Stk
section
variable {w W : World} {M : Int} {va ma : Option Addr} {vc n0 i b mc : Nat} {l : List Ob} {x : Kc} {O : Nat → Prop} {a : Act}
set_option maxRecDepth 100000
set_option maxHeartbeats 2000000
theorem sw_swap_neg (h : InS w M va ma vc n0 i b mc l x O a W) (hdd : x.d = 5) (hn : x.n < 0) : SwOk w M va vc n0 i a W := by
  intro J K' Q' hJ hK hQ
  obtain ⟨u, rfl⟩ := h.fr.out
  obtain ⟨z0, z1, z2, z3, z4⟩ := boxCells h.box
  rw [hdd] at z0
  obtain ⟨qa, qc, hqk, _⟩ := h.kp.sk.skc
  have HK := Lib.hid h.kp
  have HO := Lib.hid h.kp.sk.olt
  have HLL := Lib.hid h.ll
  have hi6 := h.i6
  have hll6 : l.length ≤ 6000 := by have := h.ll; omega
  have hbW : b < W.heap.size := (Array.getElem?_eq_some_iff.1 h.box).1
  have HBox := Lib.hid h.box
  have HNo := Lib.hid h.no
  have hb1 := below1 W (obC ⟨1, false, 0, x.j, ⟨#[]⟩, 0, 0, 0⟩)
  have hk1 := h.kp.step hb1
  have HB1 := Lib.hid hb1
  have HT := Lib.hid (swap_no (i := x.n) (x := 11) ⟨1, false, 0, x.j, ⟨#[]⟩, 0, 0, 0⟩ hk1.sk (fun w1 hb => (place_neg hn).mono fun _ _ ⟨he, hw⟩ => ⟨he, 0, hw⟩))
  unfold Ob.val at HT
  unfold obC at HT HB1
  clear h hb1 hk1 hqk
  conv => arg 2; whnf
  go_wp2_with fail
  refine HT.out.mono ?_; rintro e w5 ⟨rfl, hp⟩
  obtain ⟨O', hk9⟩ := (HK.out.step HB1.out).turn hp
  have HK9 := Lib.hid hk9
  clear hp hk9
  go_wp2_with fail
  refine Met.intro (hJ _ _ ⟨rfl, by kernel_rfl, by kernel_rfl, by kernel_rfl, by kernel_rfl, by kernel_rfl, by kernel_rfl, by kernel_rfl, ?_⟩)
  exact ⟨O', l, [], 11, HK9.out, by have := HLL.out; omega, by kernel_rfl, by kernel_rfl, rw_nil _, rw_nil _, by simp⟩
theorem sw_swap_far (h : InS w M va ma vc n0 i b mc l x O a W) (hdd : x.d = 5) (hn : 0 ≤ x.n) (hn2 : (l.length : Int) ≤ x.n) : SwOk w M va vc n0 i a W := by
  intro J K' Q' hJ hK hQ
  obtain ⟨u, rfl⟩ := h.fr.out
  obtain ⟨z0, z1, z2, z3, z4⟩ := boxCells h.box
  rw [hdd] at z0
  obtain ⟨qa, qc, hqk, _⟩ := h.kp.sk.skc
  have HK := Lib.hid h.kp
  have HO := Lib.hid h.kp.sk.olt
  have HLL := Lib.hid h.ll
  have hi6 := h.i6
  have hll6 : l.length ≤ 6000 := by have := h.ll; omega
  have hbW : b < W.heap.size := (Array.getElem?_eq_some_iff.1 h.box).1
  have HBox := Lib.hid h.box
  have HNo := Lib.hid h.no
  have hb1 := below1 W (obC ⟨1, false, 0, x.j, ⟨#[]⟩, 0, 0, 0⟩)
  have hk1 := h.kp.step hb1
  have HB1 := Lib.hid hb1
  have hnn : ¬ x.n < 0 := by omega
  have HT := Lib.hid (swap_no (i := x.n) (x := 13) ⟨1, false, 0, x.j, ⟨#[]⟩, 0, 0, 0⟩ hk1.sk (fun w1 hb => place_under (hqk.below (bthen hb1 hb)) hn hn2))
  unfold Ob.val at HT
  unfold obC at HT HB1
  clear h hb1 hk1 hqk
  conv => arg 2; whnf
  go_wp2_with fail
  refine HT.out.mono ?_; rintro e w5 ⟨rfl, hp⟩
  obtain ⟨O', hk9⟩ := (HK.out.step HB1.out).turn hp
  have HK9 := Lib.hid hk9
  clear hp hk9
  go_wp2_with fail
  refine Met.intro (hJ _ _ ⟨rfl, by kernel_rfl, by kernel_rfl, by kernel_rfl, by kernel_rfl, by kernel_rfl, by kernel_rfl, by kernel_rfl, ?_⟩)
  exact ⟨O', l, [], 13, HK9.out, by have := HLL.out; omega, by kernel_rfl, by kernel_rfl, rw_nil _, rw_nil _, by simp⟩
theorem sw_swap_yes {K m : Nat} (h : InS w M va ma vc n0 i b mc l x O a W) (hdd : x.d = 5) (hN : x.n = K) (hKl : K < l.length) (hm : l.length - 1 - K = m) : SwOk w M va vc n0 i a W := by
  intro J K' Q' hJ hK hQ
  obtain ⟨u, rfl⟩ := h.fr.out
  obtain ⟨z0, z1, z2, z3, z4⟩ := boxCells h.box
  rw [hdd] at z0
  obtain ⟨qa, qc, hqk, _⟩ := h.kp.sk.skc
  have HK := Lib.hid h.kp
  have HO := Lib.hid h.kp.sk.olt
  have HLL := Lib.hid h.ll
  have hi6 := h.i6
  have hll6 : l.length ≤ 6000 := by have := h.ll; omega
  have hbW : b < W.heap.size := (Array.getElem?_eq_some_iff.1 h.box).1
  have HBox := Lib.hid h.box
  have HNo := Lib.hid h.no
  rw [hN] at z1
  have hb1 := below1 W (obC ⟨1, false, 0, x.j, ⟨#[]⟩, 0, 0, 0⟩)
  have hk1 := h.kp.step hb1
  have HB1 := Lib.hid hb1
  have hBox1 := heap_alloc_new W (obC ⟨1, false, 0, x.j, ⟨#[]⟩, 0, 0, 0⟩)
  have ht := swap_yes ⟨1, false, 0, x.j, ⟨#[]⟩, 0, 0, 0⟩ hk1.sk hKl
  rw [hm] at ht
  have HT := Lib.hid ht
  have HBx1 := Lib.hid hBox1
  have HM := Lib.hid hm
  have e1 : (l.length : Int) - 1 - (K : Int) = m := by omega
  have hml : m < l.length := by omega
  unfold Ob.val at HT
  unfold obC at HT HB1 HBx1
  clear h hb1 hk1 hqk ht hm hN hBox1
  conv => arg 2; whnf
  go_wp2_with fail
  refine HT.out.mono ?_; rintro e w5 ⟨rfl, hp⟩
  have hy5 := box_turn HO.out hp HBx1.out
  obtain ⟨q0, q1, q2, q3, q4⟩ := boxCells (box_keep HB1.out HNo.out hp HBox.out)
  have hb5 : b < w5.heap.size := World.block_lt_of_cell? w5 _ q0
  have hW5 : W.heap.size < w5.heap.size := (Array.getElem?_eq_some_iff.1 hy5).1
  obtain ⟨O', hk5⟩ := (HK.out.step HB1.out).turn hp
  obtain ⟨ra, rc, re, hra, hrn, _⟩ := hk5.row
  cases re
  obtain ⟨B, c2, w6, hr, hb6, hB, hrow⟩ := copiedO hra.src hrn (by omega) 34
  have hlv := List.getElem?_eq_getElem hml
  obtain ⟨o0, o1, o2, o3, o4, o5, o6, o7⟩ := hrow.obAt hlv
  have hfr := hrow.free
  obtain ⟨y0, y1, y2, y3, y4, y5, y6, y7⟩ := cellsOb ((hb6.block _ hW5).trans hy5)
  have Q1 : w6.cell? ⟨b, 1, none⟩ = some (.int .i64 (K : Int)) := by
    have := hb6.cell (p := ⟨b, 1, none⟩) hb5
    rw [this]
    have h1 := (boxCells (box_keep HB1.out HNo.out hp HBox.out)).2.1
    have h2 := (boxCells HBox.out).2.1
    rw [h1, ← h2]; exact z1
  have HR := Lib.hid hr
  have hset := hrow.flat.set8 (m * 8) ⟨1, false, 0, x.j, ⟨#[]⟩, 0, 0, 0⟩
  rw [lset8_obs _ l m hml, show l.length = (l.set m ⟨1, false, 0, x.j, ⟨#[]⟩, 0, 0, 0⟩).length by simp] at hset
  have hkf := hk5.other (w' := set8 w6 B (m * 8) ⟨1, false, 0, x.j, ⟨#[]⟩, 0, 0, 0⟩) (by
    obtain ⟨e1, e2, e3⟩ := set8_env w6 B (m * 8) ⟨1, false, 0, x.j, ⟨#[]⟩, 0, 0, 0⟩
    exact ⟨e1.trans hb6.os, e2.trans hb6.tape, e3.trans hb6.output, by rw [set8_size]; exact hb6.size, fun k hk => (set8_far (by omega)).trans (hb6.block k hk)⟩) hset.sl (fun k hk => by have := isB_le hk; omega)
  rw [List.length_set] at hkf
  have HKf := Lib.hid hkf
  have hWB : W.heap.size ≠ B := by omega
  have hbB : b ≠ B := by omega
  generalize l[m] = ov at *
  clear hp hy5 hk5 hra hr hb6 hB hrow hlv hset hkf
  unfold set8 at HKf
  go_wp2_with (at_builtin; refine wpList_append_run7 rfl (.tmp 184) (.tmp 185) 34 34 34 (.slice (some ⟨B, 0, none⟩) l.length c2) rfl rfl _ _ rfl rfl HR.out ?_)
  refine Met.intro (hJ _ _ ⟨rfl, by kernel_rfl, by kernel_rfl, by kernel_rfl, by kernel_rfl, by kernel_rfl, by kernel_rfl, by kernel_rfl, ?_⟩)
  exact ⟨O', l.set m ⟨1, false, 0, x.j, ⟨#[]⟩, 0, 0, 0⟩, [], 0, HKf.out, by rw [List.length_set]; have := HLL.out; omega, by kernel_rfl, by kernel_rfl, rw_nil _, rw_nil _, by simp⟩
theorem sw_reset_all (h : InS w M va ma vc n0 i b mc l x O a W) (hdd : x.d = 8) (hM : (x.l.length : Int) ≤ M) : SwOk w M va vc n0 i a W := by
  intro J K' Q' hJ hK hQ
  obtain ⟨u, rfl⟩ := h.fr.out
  obtain ⟨z0, z1, z2, z3, z4⟩ := boxCells h.box
  rw [hdd] at z0
  obtain ⟨qa, qc, hqk, _⟩ := h.kp.sk.skc
  have HK := Lib.hid h.kp
  have HO := Lib.hid h.kp.sk.olt
  have HLL := Lib.hid h.ll
  have hi6 := h.i6
  have hll6 : l.length ≤ 6000 := by have := h.ll; omega
  have hbW : b < W.heap.size := (Array.getElem?_eq_some_iff.1 h.box).1
  have HBox := Lib.hid h.box
  have HNo := Lib.hid h.no
  have hm0 := h.m0
  have hm1 := h.m1
  have ht := reset_at (c := x.lc) h.kp.sk h.kw.src h.kw.nil (by have := h.xl; omega) h.kw.cap
  rw [List.take_of_length_le (by omega)] at ht
  have HT := Lib.hid ht
  have HSrc := Lib.hid (fun (O' : Nat → Prop) w5 (hb : Below w.heap.size w w5) lo => srcN_of (O := O') (W := w5) h.kw0.src hb lo)
  have HCap := Lib.hid (And.intro h.kw.nil h.kw.cap)
  have HXl := Lib.hid h.xl
  have hxl := h.xl
  clear h hqk ht
  conv => arg 2; whnf
  go_wp2_with fail
  refine HT.out.mono ?_; rintro e w5 ⟨rfl, hp⟩
  obtain ⟨q0, q1, q2, q3, q4⟩ := boxCells (box_keep (Below.refl _ _) HNo.out hp HBox.out)
  obtain ⟨O', hk5⟩ := HK.out.turn hp
  have HKf := Lib.hid (show Kp w w.heap.size M O' w5 (.slice x.la x.l.length x.lc) x.l x.l from ⟨hk5.sk, hk5.lo, hk5.bel, x.la, x.lc, rfl, HSrc.out O' w5 hk5.bel hk5.lo, HCap.out.1, HCap.out.2⟩)
  clear hp hk5
  go_wp2_with fail
  refine Met.intro (hJ _ _ ⟨rfl, by kernel_rfl, by kernel_rfl, by kernel_rfl, by kernel_rfl, by kernel_rfl, by kernel_rfl, by kernel_rfl, ?_⟩)
  exact ⟨O', x.l, [], 0, HKf.out, by have := HXl.out; omega, by kernel_rfl, by kernel_rfl, rw_nil _, rw_nil _, by simp⟩
theorem sw_reset_cut {Mn : Nat} (h : InS w M va ma vc n0 i b mc l x O a W) (hdd : x.d = 8) (hM : M < (x.l.length : Int)) (hMn : M = Mn) : SwOk w M va vc n0 i a W := by
  subst hMn
  intro J K' Q' hJ hK hQ
  obtain ⟨u, rfl⟩ := h.fr.out
  obtain ⟨z0, z1, z2, z3, z4⟩ := boxCells h.box
  rw [hdd] at z0
  obtain ⟨qa, qc, hqk, _⟩ := h.kp.sk.skc
  have HK := Lib.hid h.kp
  have HO := Lib.hid h.kp.sk.olt
  have HLL := Lib.hid h.ll
  have hi6 := h.i6
  have hll6 : l.length ≤ 6000 := by have := h.ll; omega
  have hbW : b < W.heap.size := (Array.getElem?_eq_some_iff.1 h.box).1
  have HBox := Lib.hid h.box
  have HNo := Lib.hid h.no
  have ht := reset_at (c := x.lc) h.kp.sk h.kw.src h.kw.nil (by have := h.xl; omega) h.kw.cap
  rw [Int.toNat_natCast] at ht
  have HT := Lib.hid ht
  have HSrc := Lib.hid (fun (O' : Nat → Prop) w5 (hb : Below w.heap.size w w5) lo => srcN_of (O := O') (W := w5) h.kw0.src hb lo)
  have HCap := Lib.hid (And.intro h.kw.nil h.kw.cap)
  have HXl := Lib.hid h.xl
  have hxl := h.xl
  have hMc : Mn ≤ x.lc := by have := h.kw.cap; omega
  obtain ⟨lad, hla⟩ : ∃ ad, x.la = some ad := by
    rcases h.kw.src with e | ⟨ad, e, _⟩
    · rw [e] at hM; simp at hM; omega
    · exact ⟨ad, e⟩
  rw [hla] at HT HCap z3
  have HLa := Lib.hid hla
  clear h hqk ht hla
  conv => arg 2; whnf
  go_wp2_with fail
  refine HT.out.mono ?_; rintro e w5 ⟨rfl, hp⟩
  obtain ⟨q0, q1, q2, q3, q4⟩ := boxCells (box_keep (Below.refl _ _) HNo.out hp HBox.out)
  rw [HLa.out] at q3
  obtain ⟨O', hk5⟩ := HK.out.turn hp
  have hs := HSrc.out O' w5 hk5.bel hk5.lo
  rw [HLa.out] at hs
  have hkf : Kp w w.heap.size Mn O' w5 (.slice (some lad) x.l.length x.lc) (x.l.take Mn) x.l := ⟨hk5.sk, hk5.lo, hk5.bel, some lad, x.lc, rfl, hs, HCap.out.1, HCap.out.2⟩
  have HKf := Lib.hid (hkf.cut (m := Mn) (by omega))
  clear hp hk5 hs hkf
  go_wp2_with fail
  refine Met.intro (hJ _ _ ⟨rfl, by kernel_rfl, by kernel_rfl, by kernel_rfl, by kernel_rfl, by kernel_rfl, by kernel_rfl, by kernel_rfl, ?_⟩)
  exact ⟨O', x.l.take Mn, [], 0, HKf.out, by rw [List.length_take]; have := HXl.out; omega, by kernel_rfl, by kernel_rfl, rw_nil _, rw_nil _, by simp⟩
end
end Go.Proofs.Ytcmoppliipdfgaa
