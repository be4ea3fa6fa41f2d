/-
  The switch of the law StackActs, case by case: Roll.
-/
import Derived.Test.YtcmoppliipdfgaaStkSw1
import Derived.StillTailTactics
import Derived.Deep.CutRange
import Derived.Test.YtcmoppliipdfgaaStkMath
namespace Go.Proofs.Ytcmoppliipdfgaa
open Go.RowKit
open St Stk
section
variable {w W : World} {M : Int} {va ma : Option Addr} {vc n0 i b mc : Nat} {l : List Ob} {x : Kc} {O : Nat → Prop} {a : Act}
set_option maxRecDepth 100000
set_option maxHeartbeats 2000000
theorem sw_roll_neg (h : InS w M va ma vc n0 i b mc l x O a W) (hdd : x.d = 6) (hn : x.n < 0) : SwOk w M va vc n0 i a W := by
  intro J K' Q' hJ hK hQ
  obtain ⟨u, rfl⟩ := h.fr.out
  obtain ⟨z0, z1, z2, z3, z4⟩ := boxCells h.box
  rw [hdd] at z0
  obtain ⟨qa, qc, hqk, _⟩ := h.kp.sk.skc
  have HK := Lib.hid h.kp
  have HO := Lib.hid h.kp.sk.olt
  have HLL := Lib.hid h.ll
  have hi6 := h.i6
  have hll6 : l.length ≤ 6000 := by have := h.ll; omega
  have hbW : b < W.heap.size := (Array.getElem?_eq_some_iff.1 h.box).1
  have HBox := Lib.hid h.box
  have HNo := Lib.hid h.no
  have HT := Lib.hid (roll_no (i := x.n) (j := x.j) (x := 11) h.kp.sk ((top_neg hn).mono fun _ _ ⟨he, hw⟩ => ⟨he, 0, hw⟩))
  clear h hqk
  conv => arg 2; whnf
  go_wp2_with fail
  refine HT.out.mono ?_; rintro e w5 ⟨rfl, hp⟩
  obtain ⟨q0, q1, q2, q3, q4⟩ := boxCells (box_keep (Below.refl _ _) HNo.out hp HBox.out)
  obtain ⟨O', hk9⟩ := HK.out.turn hp
  have HK9 := Lib.hid hk9
  clear hp hk9
  go_wp2_with fail
  refine Met.intro (hJ _ _ ⟨rfl, by kernel_rfl, by kernel_rfl, by kernel_rfl, by kernel_rfl, by kernel_rfl, by kernel_rfl, by kernel_rfl, ?_⟩)
  exact ⟨O', l, [], 11, HK9.out, by have := HLL.out; omega, by kernel_rfl, by kernel_rfl, rw_nil _, rw_nil _, by simp⟩
theorem sw_roll_far (h : InS w M va ma vc n0 i b mc l x O a W) (hdd : x.d = 6) (hn : 0 ≤ x.n) (hn2 : (l.length : Int) < x.n) : SwOk w M va vc n0 i a W := by
  intro J K' Q' hJ hK hQ
  obtain ⟨u, rfl⟩ := h.fr.out
  obtain ⟨z0, z1, z2, z3, z4⟩ := boxCells h.box
  rw [hdd] at z0
  obtain ⟨qa, qc, hqk, _⟩ := h.kp.sk.skc
  have HK := Lib.hid h.kp
  have HO := Lib.hid h.kp.sk.olt
  have HLL := Lib.hid h.ll
  have hi6 := h.i6
  have hll6 : l.length ≤ 6000 := by have := h.ll; omega
  have hbW : b < W.heap.size := (Array.getElem?_eq_some_iff.1 h.box).1
  have HBox := Lib.hid h.box
  have HNo := Lib.hid h.no
  have hnn : ¬ x.n < 0 := by omega
  have HT := Lib.hid (roll_no (i := x.n) (j := x.j) (x := 13) h.kp.sk (top_under hqk hn hn2))
  clear h hqk
  conv => arg 2; whnf
  go_wp2_with fail
  refine HT.out.mono ?_; rintro e w5 ⟨rfl, hp⟩
  obtain ⟨q0, q1, q2, q3, q4⟩ := boxCells (box_keep (Below.refl _ _) HNo.out hp HBox.out)
  obtain ⟨O', hk9⟩ := HK.out.turn hp
  have HK9 := Lib.hid hk9
  clear hp hk9
  go_wp2_with fail
  refine Met.intro (hJ _ _ ⟨rfl, by kernel_rfl, by kernel_rfl, by kernel_rfl, by kernel_rfl, by kernel_rfl, by kernel_rfl, by kernel_rfl, ?_⟩)
  exact ⟨O', l, [], 13, HK9.out, by have := HLL.out; omega, by kernel_rfl, by kernel_rfl, rw_nil _, rw_nil _, by simp⟩
theorem sw_roll_zero (h : InS w M va ma vc n0 i b mc l x O a W) (hdd : x.d = 6) (hn : x.n = 0) : SwOk w M va vc n0 i a W := by
  intro J K' Q' hJ hK hQ
  obtain ⟨u, rfl⟩ := h.fr.out
  obtain ⟨z0, z1, z2, z3, z4⟩ := boxCells h.box
  rw [hdd] at z0
  obtain ⟨qa, qc, hqk, _⟩ := h.kp.sk.skc
  have HK := Lib.hid h.kp
  have HO := Lib.hid h.kp.sk.olt
  have HLL := Lib.hid h.ll
  have hi6 := h.i6
  have hll6 : l.length ≤ 6000 := by have := h.ll; omega
  have hbW : b < W.heap.size := (Array.getElem?_eq_some_iff.1 h.box).1
  have HBox := Lib.hid h.box
  have HNo := Lib.hid h.no
  rw [hn] at z1
  have HN := Lib.hid hn
  have HT := Lib.hid (roll_zero (j := x.j) h.kp.sk)
  clear h hqk hn
  conv => arg 2; whnf
  go_wp2_with fail
  refine HT.out.mono ?_; rintro e w5 ⟨rfl, hp⟩
  obtain ⟨q0, q1, q2, q3, q4⟩ := boxCells (box_keep (Below.refl _ _) HNo.out hp HBox.out)
  rw [HN.out] at q1
  obtain ⟨O', hk9⟩ := HK.out.turn hp
  have HK9 := Lib.hid hk9
  clear hp hk9
  go_wp2_with fail
  refine Met.intro (hJ _ _ ⟨rfl, by kernel_rfl, by kernel_rfl, by kernel_rfl, by kernel_rfl, by kernel_rfl, by kernel_rfl, by kernel_rfl, ?_⟩)
  exact ⟨O', l, [], 0, HK9.out, by have := HLL.out; omega, by kernel_rfl, by kernel_rfl, rw_nil _, rw_nil _, by simp⟩
theorem sw_roll_yes {N : Nat} (h : InS w M va ma vc n0 i b mc l x O a W) (hdd : x.d = 6) (hn : x.n = N) (h0 : 0 < N) (hNl : N ≤ l.length) : SwOk w M va vc n0 i a W := by
  intro J K' Q' hJ hK hQ
  obtain ⟨u, rfl⟩ := h.fr.out
  obtain ⟨z0, z1, z2, z3, z4⟩ := boxCells h.box
  rw [hdd] at z0
  obtain ⟨qa, qc, hqk, _⟩ := h.kp.sk.skc
  have HK := Lib.hid h.kp
  have HO := Lib.hid h.kp.sk.olt
  have HLL := Lib.hid h.ll
  have hi6 := h.i6
  have hll6 : l.length ≤ 6000 := by have := h.ll; omega
  have hbW : b < W.heap.size := (Array.getElem?_eq_some_iff.1 h.box).1
  have HBox := Lib.hid h.box
  have HNo := Lib.hid h.no
  rw [hn] at z1
  have HN := Lib.hid hn
  have HT := Lib.hid (roll_yes (j := x.j) h.kp.sk h0 hNl)
  have hj := h.kw.j0
  obtain ⟨hj1, hj2⟩ := hj
  have hup := up_law h0 x.j
  have hult := upOf_lt h0 x.j
  have HUp := Lib.hid hup
  have hm1 : -(N : Int) < x.j.tmod N := Int.lt_tmod_of_pos x.j (by omega)
  have hm2 : x.j.tmod N < N := Int.tmod_lt_of_pos x.j (by omega)
  have hNi : (0 : Int) < (N : Int) := by omega
  have hNl2 : (N : Int) ≤ (l.length : Int) := by omega
  clear h hqk hn hup
  conv => arg 2; whnf
  go_wp2_with fail
  refine HT.out.mono ?_; rintro e w5 ⟨rfl, hp⟩
  have HQ := Lib.hid (fun w6 (hb : Below w5.heap.size w5 w6) => boxCells ((hb.block b (Array.getElem?_eq_some_iff.1 (box_keep (Below.refl _ _) HNo.out hp HBox.out)).1).trans (box_keep (Below.refl _ _) HNo.out hp HBox.out)))
  obtain ⟨q0, q1, q2, q3, q4⟩ := HQ.out w5 (Below.refl _ _)
  rw [HN.out] at q1
  obtain ⟨O', hk5⟩ := HK.out.turn hp
  obtain ⟨ra, rc, re, hra, hrn, _⟩ := hk5.row
  cases re
  obtain ⟨B, c2, w6, hr, hb6, hB, hrow⟩ := copiedO hra.src hrn (by omega) 34
  have HK5 := Lib.hid hk5
  have HRa := Lib.hid hra.src
  have HR := Lib.hid hr
  have HB6 := Lib.hid hb6
  have HBB := Lib.hid hB
  have HRow := Lib.hid hrow
  obtain ⟨U, hU⟩ : ∃ U, upOf N x.j = U := ⟨_, rfl⟩
  rw [hU] at HUp hult HK5
  clear hp hk5 hra hr hb6 hB hrow hU
  go_upto_if 223 with (fail)
  go_cut [20] from 196 to 227 (fun s20 wx => s20 = .int .i64 U ∧ wx = w5)
  case first =>
    by_cases hneg : x.j.tmod N < 0
    · have hu := HUp.out
      rw [if_pos hneg] at hu
      have HU2 := Lib.hid hu
      clear hu
      go_wp2_with fail
      go_meet
      exact ⟨by rw [HU2.out], rfl⟩
    · have hu := HUp.out
      rw [if_neg hneg] at hu
      have HU2 := Lib.hid hu
      clear hu
      go_wp2_with fail
      go_meet
      exact ⟨by rw [HU2.out], rfl⟩
  case rest =>
  obtain ⟨rfl, rfl⟩ := hcut
  clear hm1 hm2 HUp q0 q1 q2 q3 q4
  go_wp2_with (at_builtin; refine wpList_append_run7 rfl (.tmp 228) (.tmp 229) 34 34 34 (.slice (some ⟨B, 0, none⟩) l.length c2) rfl rfl _ _ rfl rfl HR.out ?_)
  clear HR
  obtain ⟨D, hD⟩ : ∃ D, l.length - N = D := ⟨_, rfl⟩
  have HD := Lib.hid hD
  have e1 : (l.length : Int) - (N : Int) = D := by omega
  have hDN : D + N = l.length := by omega
  clear hD
  go_loopw [22] (fun s22 wq => Below wc.heap.size wc wq ∧ ∃ (k : Nat) (xs : List Ob), s22 = .int .i64 k ∧ k ≤ N ∧ Laid N U k l xs ∧ SL wq (.slice (some ⟨B, 0, none⟩) l.length c2) xs) (fun s22 _ => N - (intOf s22).toNat)
  case atStart => exact ⟨HB6.out, 0, l, rfl, Nat.zero_le _, Laid.start N U l, HRow.out⟩
  case round =>
    obtain ⟨hbq, k, xs, rfl, hk, hla, hsl⟩ := hrel
    have HBq := Lib.hid hbq
    have HLa := Lib.hid hla
    have HSl := Lib.hid hsl
    obtain ⟨q0, q1, q2, q3, q4⟩ := HQ.out wr hbq
    rw [HN.out] at q1
    by_cases hlt : k < N
    · obtain ⟨r, hr⟩ : ∃ r, (k + U) % N = r := ⟨_, rfl⟩
      have hrN : r < N := by rw [← hr]; exact Nat.mod_lt _ h0
      obtain ⟨p, hp⟩ : ∃ p, D + k = p := ⟨_, rfl⟩
      obtain ⟨t, ht⟩ : ∃ t, D + r = t := ⟨_, rfl⟩
      have hpl : p < l.length := by omega
      have htl : t < l.length := by omega
      have hxl : xs.length = l.length := hla.1
      obtain ⟨o, ho⟩ : ∃ o, l[p]? = some o := ⟨_, List.getElem?_eq_getElem hpl⟩
      have hxt : t < xs.length := by omega
      obtain ⟨y, hy⟩ : ∃ y, xs[t]? = some y := ⟨_, List.getElem?_eq_getElem hxt⟩
      obtain ⟨mad, rfl⟩ : ∃ ad, ma = some ad := by
        rcases HRa.out with e | ⟨ad, e, _⟩
        · rw [e] at hpl; simp at hpl
        · exact ⟨ad, e⟩
      obtain ⟨o0, o1, o2, o3, o4, o5, o6, o7⟩ := src_obA (HRa.out.below hbq) ho
      obtain ⟨y0, y1, y2, y3, y4, y5, y6, y7⟩ := hsl.obAt hy
      have hfr := hsl.free
      have hset := (hsl.below (below_draw (Below.refl _ _) 1)).flat.set8 (t * 8) o
      rw [hxl, lset8_obs o xs t (by omega), show l.length = (xs.set t o).length by rw [List.length_set]; exact hxl.symm] at hset
      have hs2 := hset.sl
      rw [List.length_set, hxl] at hs2
      have hnx := hla.next hNl hlt (o := o) (by rw [HD.out, hp]; exact ho)
      rw [HD.out, hr, ht] at hnx
      have hb2 : Below wc.heap.size wc (set8 (wr.drewN 1) B (t * 8) o) := by
        obtain ⟨g1, g2, g3⟩ := set8_env (wr.drewN 1) B (t * 8) o
        have hd := below_draw hbq 1
        exact ⟨g1.trans hd.os, g2.trans hd.tape, g3.trans hd.output, by rw [set8_size]; exact hd.size, fun k hk => (set8_far (by have := HBB.out; omega)).trans (hd.block k hk)⟩
      have HNx := Lib.hid (And.intro hb2 (And.intro hnx hs2))
      unfold set8 at HNx
      have e4 : (D : Int) + (k : Int) = p := by omega
      have e3 : (D : Int) + (r : Int) = t := by omega
      have em : ((k : Int) + (U : Int)).tmod (N : Int) = r := by
        rw [Int.tmod_eq_emod_of_nonneg (by omega), ← hr]; simp
      have em2 : ((k : Int) + (U : Int)) % (N : Int) = r := by rw [← hr]; simp
      have hUN : U < N := hult
      have hN6 : N ≤ 6000 := by omega
      clear hbq hla hsl ho hy hset hs2 hnx hb2 hr hp ht
      go_wp2_with fail
      have w1 : IntKind.i64.wrap (D : Int) = D := by rw [IntKind.wrap_i64]; omega
      have w2 : IntKind.i64.wrap ((k : Int) + (U : Int)) = (k : Int) + (U : Int) := by rw [IntKind.wrap_i64]; omega
      have w3 : IntKind.i64.wrap (t : Int) = t := by rw [IntKind.wrap_i64]; omega
      have w4 : IntKind.i64.wrap (p : Int) = p := by rw [IntKind.wrap_i64]; omega
      have w6 : IntKind.i64.wrap (r : Int) = r := by rw [IntKind.wrap_i64]; omega
      have hz1 : ((N : Int) == 0) = false := by simp; omega
      have hz2 : ¬ (N : Int) = 0 := by omega
      have hz3 : ¬ N = 0 := by omega
      go_still_tail 22, (by kernel_rfl)
      change wpList _ _ _ _ _ (wr.drewN 1)
      clear w1 w2 w3 w4 w6 hz1 hz2 hz3 em em2
      go_wp2_with fail
      go_roundw
      case rel => exact ⟨HNx.out.1, k + 1, _, by go_num, by omega, HNx.out.2.1, HNx.out.2.2⟩
      case measure => simp [intOf]; omega
    · have hkN : k = N := by omega
      subst hkN
      have hxe := hla.done hNl hult
      rw [hxe] at hsl
      have hsl2 := hsl
      rw [show l.length = (rol k U l).length from (rol_len k U l).symm] at hsl2
      have hkf := HK5.out.other hbq hsl2 (fun q hq => by have := isB_le hq; have := HBB.out; omega)
      rw [rol_len] at hkf
      have HKf := Lib.hid hkf
      clear hla hsl hsl2 hxe hkf HLa HSl
      go_wp2_with fail
      refine Met.intro (hJ _ _ ⟨rfl, by kernel_rfl, by kernel_rfl, by kernel_rfl, by kernel_rfl, by kernel_rfl, by kernel_rfl, by kernel_rfl, ?_⟩)
      exact ⟨O', rol k U l, [], 0, HKf.out, by rw [rol_len]; have := HLL.out; omega, by kernel_rfl, by kernel_rfl, rw_nil _, rw_nil _, by simp⟩
end
end Go.Proofs.Ytcmoppliipdfgaa
