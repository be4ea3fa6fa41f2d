/-
  The switch of the law StackActs, case by case: Take.
-/
import Derived.Test.YtcmoppliipdfgaaStkSw2
namespace Go.Proofs.Ytcmoppliipdfgaa
open Go.RowKit
open St Stk
section
variable {w W : World} {M : Int} {va ma : Option Addr} {vc n0 i b mc : Nat} {l : List Ob} {x : Kc} {O : Nat → Prop} {a : Act}
set_option maxRecDepth 100000
set_option maxHeartbeats 2000000
theorem sw_take_neg (h : InS w M va ma vc n0 i b mc l x O a W) (hdd : x.d = 3) (hn : x.n < 0) : SwOk w M va vc n0 i a W := by
  intro J K' Q' hJ hK hQ
  obtain ⟨u, rfl⟩ := h.fr.out
  obtain ⟨z0, z1, z2, z3, z4⟩ := boxCells h.box
  rw [hdd] at z0
  obtain ⟨qa, qc, hqk, _⟩ := h.kp.sk.skc
  have HK := Lib.hid h.kp
  have HO := Lib.hid h.kp.sk.olt
  have HLL := Lib.hid h.ll
  have hi6 := h.i6
  have hll6 : l.length ≤ 6000 := by have := h.ll; omega
  have hbW : b < W.heap.size := (Array.getElem?_eq_some_iff.1 h.box).1
  have HBox := Lib.hid h.box
  have HNo := Lib.hid h.no
  have HT := Lib.hid (take_no h.kp.sk (i := x.n) (x := 11) ((top_neg hn).mono fun _ _ ⟨he, hw⟩ => ⟨he, 0, hw⟩))
  unfold SkT at HT
  clear h hqk
  conv => arg 2; whnf
  go_wp2_with fail
  refine HT.out.mono ?_; rintro e w5 ⟨v, rfl, hsv, O5, hk5, hF5, hO5, _⟩
  have hp : SkP O W w.heap.size M 12 13 l w5 := ⟨O5, hk5, hF5, hO5⟩
  obtain ⟨O', hk9⟩ := HK.out.turn hp
  obtain ⟨q0, q1, q2, q3, q4⟩ := boxCells (box_keep (Below.refl _ _) HNo.out hp HBox.out)
  rw [hdd] at q0
  obtain ⟨sa, sc, rfl, _⟩ := hsv.form
  have HSv := Lib.hid hsv.src
  have HK9 := Lib.hid hk9
  clear hsv hk5 hF5 hO5 hp hk9
  go_wp2_with fail
  refine Met.intro (hJ _ _ ⟨rfl, by kernel_rfl, by kernel_rfl, by kernel_rfl, by kernel_rfl, by kernel_rfl, by kernel_rfl, by kernel_rfl, ?_⟩)
  exact ⟨O', l, [], 11, HK9.out, by have := HLL.out; omega, by kernel_rfl, by kernel_rfl, ⟨sa, sc, by kernel_rfl, HSv.out⟩, rw_nil _, by simp⟩
theorem sw_take_far (h : InS w M va ma vc n0 i b mc l x O a W) (hdd : x.d = 3) (hn : 0 ≤ x.n) (hn2 : (l.length : Int) < x.n) : SwOk w M va vc n0 i a W := by
  intro J K' Q' hJ hK hQ
  obtain ⟨u, rfl⟩ := h.fr.out
  obtain ⟨z0, z1, z2, z3, z4⟩ := boxCells h.box
  rw [hdd] at z0
  obtain ⟨qa, qc, hqk, _⟩ := h.kp.sk.skc
  have HK := Lib.hid h.kp
  have HO := Lib.hid h.kp.sk.olt
  have HLL := Lib.hid h.ll
  have hi6 := h.i6
  have hll6 : l.length ≤ 6000 := by have := h.ll; omega
  have hbW : b < W.heap.size := (Array.getElem?_eq_some_iff.1 h.box).1
  have HBox := Lib.hid h.box
  have HNo := Lib.hid h.no
  have HT := Lib.hid (take_no h.kp.sk (i := x.n) (x := 13) (top_under hqk hn hn2))
  have hnn : ¬ x.n < 0 := by omega
  unfold SkT at HT
  clear h hqk
  conv => arg 2; whnf
  go_wp2_with fail
  refine HT.out.mono ?_; rintro e w5 ⟨v, rfl, hsv, O5, hk5, hF5, hO5, _⟩
  have hp : SkP O W w.heap.size M 12 13 l w5 := ⟨O5, hk5, hF5, hO5⟩
  obtain ⟨O', hk9⟩ := HK.out.turn hp
  obtain ⟨q0, q1, q2, q3, q4⟩ := boxCells (box_keep (Below.refl _ _) HNo.out hp HBox.out)
  rw [hdd] at q0
  obtain ⟨sa, sc, rfl, _⟩ := hsv.form
  have HSv := Lib.hid hsv.src
  have HK9 := Lib.hid hk9
  clear hsv hk5 hF5 hO5 hp hk9
  go_wp2_with fail
  refine Met.intro (hJ _ _ ⟨rfl, by kernel_rfl, by kernel_rfl, by kernel_rfl, by kernel_rfl, by kernel_rfl, by kernel_rfl, by kernel_rfl, ?_⟩)
  exact ⟨O', l, [], 13, HK9.out, by have := HLL.out; omega, by kernel_rfl, by kernel_rfl, ⟨sa, sc, by kernel_rfl, HSv.out⟩, rw_nil _, by simp⟩
theorem sw_take_some {mad : Addr} (h : InS w M va ma vc n0 i b mc l x O a W) (hdd : x.d = 3) (hn : 0 ≤ x.n) (hn2 : x.n ≤ (l.length : Int)) (hma : ma = some mad) (hne : (l.length : Int) - x.n ≠ mc) : SwOk w M va vc n0 i a W := by
  intro J K' Q' hJ hK hQ
  obtain ⟨u, rfl⟩ := h.fr.out
  obtain ⟨z0, z1, z2, z3, z4⟩ := boxCells h.box
  rw [hdd] at z0
  obtain ⟨qa, qc, hqk, _⟩ := h.kp.sk.skc
  have HK := Lib.hid h.kp
  have HO := Lib.hid h.kp.sk.olt
  have HLL := Lib.hid h.ll
  have hi6 := h.i6
  have hll6 : l.length ≤ 6000 := by have := h.ll; omega
  have hbW : b < W.heap.size := (Array.getElem?_eq_some_iff.1 h.box).1
  have HBox := Lib.hid h.box
  have HNo := Lib.hid h.no
  subst hma
  obtain ⟨K, hK⟩ : ∃ K : Nat, x.n = K := ⟨x.n.toNat, by omega⟩
  rw [hK] at z1
  obtain ⟨m, hm⟩ : ∃ m, l.length - K = m := ⟨_, rfl⟩
  have hKl : K ≤ l.length := by omega
  have ht := take_yes h.kp.sk hKl
  rw [hm] at ht
  have HT := Lib.hid ht
  have HM := Lib.hid hm
  have e1 : (l.length : Int) - (K : Int) = m := by omega
  have hml : m ≤ l.length := by omega
  obtain ⟨pa, pc, pe, psrc, pnil, pcap⟩ := h.kp.row
  cases pe
  have hmc : m ≤ mc := by omega
  have hmm : ¬ mc = m := by omega
  have hmm2 : ¬ m = mc := by omega
  clear hne
  unfold SkT at HT
  clear h hqk ht hm hK hn hn2
  conv => arg 2; whnf
  go_wp2_with fail
  refine HT.out.mono ?_; rintro e w5 ⟨v, rfl, hsv, O5, hk5, hF5, hO5, _⟩
  have hp : SkP O W w.heap.size M 12 13 (l.take m) w5 := ⟨O5, hk5, hF5, hO5⟩
  obtain ⟨O', hk9⟩ := HK.out.turn hp
  obtain ⟨sa, sc, rfl, _⟩ := hsv.form
  have HSv := Lib.hid hsv.src
  have HK9 := Lib.hid hk9
  obtain ⟨vn, hvn⟩ : ∃ k, (l.drop m).length = k := ⟨_, rfl⟩
  rw [hvn]
  have hlm : l.length - m = vn := by rw [← hvn, List.length_drop]
  have HVN := Lib.hid (And.intro hvn hlm)
  clear hsv hk5 hF5 hO5 hp hk9 hvn hlm
  go_wp2_with fail
  refine Met.intro (hJ _ _ ⟨rfl, by kernel_rfl, by kernel_rfl, by kernel_rfl, by kernel_rfl, by kernel_rfl, by kernel_rfl, by kernel_rfl, ?_⟩)
  obtain ⟨ra, rc, re, hra, _⟩ := HK9.out.row
  cases re
  exact ⟨O', l.take m, l.drop m, 0, HK9.out.cut (by omega), by rw [List.length_take]; have := HLL.out; omega, by kernel_rfl, by kernel_rfl, ⟨sa, sc, Eq.trans (b := .slice sa vn sc) (by kernel_rfl) (by rw [HVN.out.1]), HSv.out⟩, ⟨some (mad.add (m * 8)), mc - m, Eq.trans (b := .slice (some (mad.add (m * 8))) (l.length - m) (mc - m)) (by kernel_rfl) (by rw [HVN.out.2, HVN.out.1]), src_dropA hra.src m⟩, by rw [List.length_drop]; omega⟩
theorem sw_take_end {mad : Addr} (h : InS w M va ma vc n0 i b mc l x O a W) (hdd : x.d = 3) (hn : 0 ≤ x.n) (hn2 : x.n ≤ (l.length : Int)) (hma : ma = some mad) (hne : (l.length : Int) - x.n = mc) : SwOk w M va vc n0 i a W := by
  intro J K' Q' hJ hK hQ
  obtain ⟨u, rfl⟩ := h.fr.out
  obtain ⟨z0, z1, z2, z3, z4⟩ := boxCells h.box
  rw [hdd] at z0
  obtain ⟨qa, qc, hqk, _⟩ := h.kp.sk.skc
  have HK := Lib.hid h.kp
  have HO := Lib.hid h.kp.sk.olt
  have HLL := Lib.hid h.ll
  have hi6 := h.i6
  have hll6 : l.length ≤ 6000 := by have := h.ll; omega
  have hbW : b < W.heap.size := (Array.getElem?_eq_some_iff.1 h.box).1
  have HBox := Lib.hid h.box
  have HNo := Lib.hid h.no
  subst hma
  obtain ⟨K, hK⟩ : ∃ K : Nat, x.n = K := ⟨x.n.toNat, by omega⟩
  rw [hK] at z1
  obtain ⟨m, hm⟩ : ∃ m, l.length - K = m := ⟨_, rfl⟩
  have hKl : K ≤ l.length := by omega
  have ht := take_yes h.kp.sk hKl
  rw [hm] at ht
  have HT := Lib.hid ht
  have HM := Lib.hid hm
  have e1 : (l.length : Int) - (K : Int) = m := by omega
  have hml : m ≤ l.length := by omega
  obtain ⟨pa, pc, pe, psrc, pnil, pcap⟩ := h.kp.row
  cases pe
  have hmc : m ≤ mc := by omega
  have hmm : m = mc := by omega
  subst hmm
  have hll : l.length = m := by omega
  have HLm := Lib.hid hll
  clear hne hll
  unfold SkT at HT
  clear h hqk ht hm hK hn hn2
  conv => arg 2; whnf
  go_wp2_with fail
  refine HT.out.mono ?_; rintro e w5 ⟨v, rfl, hsv, O5, hk5, hF5, hO5, _⟩
  have hp : SkP O W w.heap.size M 12 13 (l.take m) w5 := ⟨O5, hk5, hF5, hO5⟩
  obtain ⟨O', hk9⟩ := HK.out.turn hp
  obtain ⟨sa, sc, rfl, _⟩ := hsv.form
  have HSv := Lib.hid hsv.src
  have HK9 := Lib.hid hk9
  obtain ⟨vn, hvn⟩ : ∃ k, (l.drop m).length = k := ⟨_, rfl⟩
  rw [hvn]
  have hlm : l.length - m = vn := by rw [← hvn, List.length_drop]
  have HVN := Lib.hid (And.intro hvn hlm)
  clear hsv hk5 hF5 hO5 hp hk9 hvn hlm
  go_wp2_with fail
  refine Met.intro (hJ _ _ ⟨rfl, by kernel_rfl, by kernel_rfl, by kernel_rfl, by kernel_rfl, by kernel_rfl, by kernel_rfl, by kernel_rfl, ?_⟩)
  obtain ⟨ra, rc, re, hra, _⟩ := HK9.out.row
  cases re
  exact ⟨O', l.take m, l.drop m, 0, HK9.out.cut (by omega), by rw [List.length_take]; have := HLL.out; omega, by kernel_rfl, by kernel_rfl, ⟨sa, sc, Eq.trans (b := .slice sa vn sc) (by kernel_rfl) (by rw [HVN.out.1]), HSv.out⟩, ⟨some mad, 0, Eq.trans (b := .slice (some mad) (0) (0)) (by kernel_rfl) (by rw [show (List.drop _ l).length = 0 from by rw [List.length_drop, HLm.out, Nat.sub_self]]), .inl (List.drop_eq_nil_of_le (by rw [HLm.out]; exact Nat.le_refl _))⟩, by rw [List.length_drop]; omega⟩
theorem sw_take_none (h : InS w M va ma vc n0 i b mc l x O a W) (hdd : x.d = 3) (hn : 0 ≤ x.n) (hn2 : x.n ≤ (l.length : Int)) (hma : ma = none) : SwOk w M va vc n0 i a W := by
  intro J K' Q' hJ hK hQ
  obtain ⟨u, rfl⟩ := h.fr.out
  obtain ⟨z0, z1, z2, z3, z4⟩ := boxCells h.box
  rw [hdd] at z0
  obtain ⟨qa, qc, hqk, _⟩ := h.kp.sk.skc
  have HK := Lib.hid h.kp
  have HO := Lib.hid h.kp.sk.olt
  have HLL := Lib.hid h.ll
  have hi6 := h.i6
  have hll6 : l.length ≤ 6000 := by have := h.ll; omega
  have hbW : b < W.heap.size := (Array.getElem?_eq_some_iff.1 h.box).1
  have HBox := Lib.hid h.box
  have HNo := Lib.hid h.no
  subst hma
  obtain ⟨K, hK⟩ : ∃ K : Nat, x.n = K := ⟨x.n.toNat, by omega⟩
  rw [hK] at z1
  obtain ⟨m, hm⟩ : ∃ m, l.length - K = m := ⟨_, rfl⟩
  have hKl : K ≤ l.length := by omega
  have ht := take_yes h.kp.sk hKl
  rw [hm] at ht
  have HT := Lib.hid ht
  have HM := Lib.hid hm
  have e1 : (l.length : Int) - (K : Int) = m := by omega
  have hml : m ≤ l.length := by omega
  obtain ⟨pa, pc, pe, psrc, pnil, pcap⟩ := h.kp.row
  cases pe
  have hmc : m ≤ mc := by omega
  have hmc0 : mc = 0 := pnil rfl
  subst hmc0
  have hm0 : m = 0 := by omega
  subst hm0
  have hll : l.length = 0 := by omega
  have HLm := Lib.hid hll
  clear hll
  unfold SkT at HT
  clear h hqk ht hm hK hn hn2
  conv => arg 2; whnf
  go_wp2_with fail
  refine HT.out.mono ?_; rintro e w5 ⟨v, rfl, hsv, O5, hk5, hF5, hO5, _⟩
  have hp : SkP O W w.heap.size M 12 13 (l.take 0) w5 := ⟨O5, hk5, hF5, hO5⟩
  obtain ⟨O', hk9⟩ := HK.out.turn hp
  obtain ⟨sa, sc, rfl, _⟩ := hsv.form
  have HSv := Lib.hid hsv.src
  have HK9 := Lib.hid hk9
  obtain ⟨vn, hvn⟩ : ∃ k, (l.drop 0).length = k := ⟨_, rfl⟩
  rw [hvn]
  have hlm : l.length - 0 = vn := by rw [← hvn, List.length_drop]
  have HVN := Lib.hid (And.intro hvn hlm)
  clear hsv hk5 hF5 hO5 hp hk9 hvn hlm
  go_wp2_with fail
  refine Met.intro (hJ _ _ ⟨rfl, by kernel_rfl, by kernel_rfl, by kernel_rfl, by kernel_rfl, by kernel_rfl, by kernel_rfl, by kernel_rfl, ?_⟩)
  obtain ⟨ra, rc, re, hra, _⟩ := HK9.out.row
  cases re
  exact ⟨O', l.take 0, l.drop 0, 0, HK9.out.cut (by omega), by rw [List.length_take]; have := HLL.out; omega, by kernel_rfl, by kernel_rfl, ⟨sa, sc, Eq.trans (b := .slice sa vn sc) (by kernel_rfl) (by rw [HVN.out.1]), HSv.out⟩, ⟨none, 0, Eq.trans (b := .slice (none) (0) (0)) (by kernel_rfl) (by rw [show (List.drop _ l).length = 0 from by rw [List.length_drop, HLm.out, Nat.sub_self]]), .inl (List.drop_eq_nil_of_le (by rw [HLm.out]; exact Nat.le_refl _))⟩, by rw [List.length_drop]; omega⟩
end
end Go.Proofs.Ytcmoppliipdfgaa
