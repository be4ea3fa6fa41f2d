/-
  The switch of the law StackActs, case by case: ToMark, Need.
-/
import Derived.Test.YtcmoppliipdfgaaStkSw1
import Derived.StillTailTactics
namespace Go.Proofs.Ytcmoppliipdfgaa
open Go.RowKit
open St Stk
section
variable {w W : World} {M : Int} {va ma : Option Addr} {vc n0 i b mc : Nat} {l : List Ob} {x : Kc} {O : Nat → Prop} {a : Act}
set_option maxRecDepth 100000
set_option maxHeartbeats 2000000
theorem sw_mark (h : InS w M va ma vc n0 i b mc l x O a W) (hdd : x.d = 7) : SwOk w M va vc n0 i a W := by
  intro J K' Q' hJ hK hQ
  obtain ⟨u, rfl⟩ := h.fr.out
  obtain ⟨z0, z1, z2, z3, z4⟩ := boxCells h.box
  rw [hdd] at z0
  obtain ⟨qa, qc, hqk, _⟩ := h.kp.sk.skc
  have HK := Lib.hid h.kp
  have HO := Lib.hid h.kp.sk.olt
  have HLL := Lib.hid h.ll
  have hi6 := h.i6
  have hll6 : l.length ≤ 6000 := by have := h.ll; omega
  have hbW : b < W.heap.size := (Array.getElem?_eq_some_iff.1 h.box).1
  have HBox := Lib.hid h.box
  have HNo := Lib.hid h.no
  have HT := Lib.hid (toMark_at h.kp.sk)
  obtain ⟨pa, pc, pe, psrc, pnil, pcap⟩ := h.kp.row
  have HRow := Lib.hid psrc.src
  cases pe
  clear h hqk psrc pnil
  conv => arg 2; whnf
  go_wp2_with fail
  refine HT.out.mono ?_; rintro e w5 ⟨rfl, hb⟩
  have HK5 := Lib.hid (HK.out.step hb)
  have HR5 := Lib.hid (HRow.out.below hb)
  clear hb
  obtain ⟨R, hR⟩ : ∃ R, mkR l = R := ⟨_, rfl⟩
  obtain ⟨R1, R2⟩ := R
  have HMk := Lib.hid hR
  rw [hR]
  clear hR
  go_wp2_with fail
  go_loopw [13, 25] (fun s13 s25 wq => wq = w5 ∧ ∃ k : Nat, s25 = .int .i64 k ∧ k ≤ l.length ∧ ((s13 = .int .i64 19 ∧ NoMk l k) ∨ (s13 = .int .i64 0 ∧ (R1, R2) = ((((k - 1 : Nat) : Int)), (0 : Int))))) (fun s13 s25 _ => l.length - (intOf s25).toNat)
  case atStart => exact ⟨rfl, 0, rfl, Nat.zero_le _, .inl ⟨rfl, fun j p hj => by omega⟩⟩
  case round =>
    obtain ⟨rfl, k, rfl, hk, hor⟩ := hrel
    rcases hor with ⟨rfl, hno⟩ | ⟨rfl, hyes⟩
    · have HNo2 := Lib.hid hno
      clear hno
      by_cases hlt : k < l.length
      · obtain ⟨m, hm⟩ : ∃ m, l.length - 1 - k = m := ⟨_, rfl⟩
        have hml : m < l.length := by omega
        obtain ⟨o, ho⟩ : ∃ o, l[m]? = some o := ⟨_, List.getElem?_eq_getElem hml⟩
        have HOo := Lib.hid (show l[l.length - 1 - k]? = some o by rw [hm]; exact ho)
        obtain ⟨mad, rfl⟩ : ∃ ad, ma = some ad := by
          rcases HR5.out with e | ⟨ad, e, _⟩
          · rw [e] at hlt; simp at hlt
          · exact ⟨ad, e⟩
        obtain ⟨o0, _⟩ := src_obA HR5.out ho
        have e1 : (l.length : Int) - 1 - (k : Int) = m := by omega
        by_cases h4 : o.kind = 4
        · have hr := mkR_yes HNo2.out hlt HOo.out h4
          rw [HMk.out] at hr
          have HR := Lib.hid hr
          rw [h4] at o0
          have hR1 : R1 = (k : Int) := by have := HR.out; simpa using congrArg Prod.fst this
          subst hR1
          clear ho hm h4 hr
          go_wp2_with fail
          go_roundw
          case rel => exact ⟨trivial, k + 1, by go_num, by omega, .inr ⟨rfl, by rw [HR.out]; simp⟩⟩
          case measure => simp [intOf]; omega
        · have HR := Lib.hid (HNo2.out.next hlt HOo.out h4)
          have h4b : (o.kind == 4) = false := by simp [h4]
          clear ho hm h4
          go_wp2_with fail
          go_roundw
          case rel => exact ⟨trivial, k + 1, by go_num, by omega, .inl ⟨rfl, HR.out⟩⟩
          case measure => simp [intOf]; omega
      · have hkl : k = l.length := by omega
        subst hkl
        have hr := mkR_no HNo2.out
        rw [HMk.out] at hr
        have hR2 : R2 = 19 := by simpa using congrArg Prod.snd hr
        subst hR2
        clear hr HMk
        go_wp2_with fail
        refine Met.intro (hJ _ _ ⟨rfl, by kernel_rfl, by kernel_rfl, by kernel_rfl, by kernel_rfl, by kernel_rfl, by kernel_rfl, by kernel_rfl, ?_⟩)
        exact ⟨O, l, [], 19, HK5.out, by have := HLL.out; omega, by kernel_rfl, by kernel_rfl, rw_nil _, rw_nil _, by simp⟩
    · have hR2 : R2 = 0 := by simpa using congrArg Prod.snd hyes
      subst hR2
      clear hyes HMk
      by_cases hlt : k < l.length
      · have hki : (k : Int) < (l.length : Int) := by omega
        go_wp2_with fail
        refine Met.intro (hJ _ _ ⟨rfl, by kernel_rfl, by kernel_rfl, by kernel_rfl, by kernel_rfl, by kernel_rfl, by kernel_rfl, by kernel_rfl, ?_⟩)
        exact ⟨O, l, [], 0, HK5.out, by have := HLL.out; omega, by kernel_rfl, by kernel_rfl, rw_nil _, rw_nil _, by simp⟩
      · have hki : ¬ (k : Int) < (l.length : Int) := by omega
        go_wp2_with fail
        refine Met.intro (hJ _ _ ⟨rfl, by kernel_rfl, by kernel_rfl, by kernel_rfl, by kernel_rfl, by kernel_rfl, by kernel_rfl, by kernel_rfl, ?_⟩)
        exact ⟨O, l, [], 0, HK5.out, by have := HLL.out; omega, by kernel_rfl, by kernel_rfl, rw_nil _, rw_nil _, by simp⟩
theorem sw_need_far (h : InS w M va ma vc n0 i b mc l x O a W) (hdd : x.d = 9) (hlt : l.length < x.ks.length) : SwOk w M va vc n0 i a W := by
  intro J K' Q' hJ hK hQ
  obtain ⟨u, rfl⟩ := h.fr.out
  obtain ⟨z0, z1, z2, z3, z4⟩ := boxCells h.box
  rw [hdd] at z0
  obtain ⟨qa, qc, hqk, _⟩ := h.kp.sk.skc
  have HK := Lib.hid h.kp
  have HO := Lib.hid h.kp.sk.olt
  have HLL := Lib.hid h.ll
  have hi6 := h.i6
  have hll6 : l.length ≤ 6000 := by have := h.ll; omega
  have hbW : b < W.heap.size := (Array.getElem?_eq_some_iff.1 h.box).1
  have HBox := Lib.hid h.box
  have HNo := Lib.hid h.no
  have hxk := h.xk
  have ht := need_at (c := x.kc) h.kp.sk h.kw.kin (by omega)
  rw [show needE 13 l x.ks = 13 by unfold needE; rw [if_pos hlt]] at ht
  have HT := Lib.hid ht
  have HBx := Lib.hid (fun w5 (hb : Below W.heap.size W w5) => boxCells ((hb.block b hbW).trans HBox.out))
  have hgt : (l.length : Int) < (x.ks.length : Int) := by omega
  have hp : (0 : Int) < (x.ks.length : Int) := by omega
  clear h hqk ht
  conv => arg 2; whnf
  go_wp2_with fail
  refine HT.out.mono ?_; rintro e w5 ⟨rfl, hb⟩
  have HK5 := Lib.hid (HK.out.step hb)
  obtain ⟨q0, q1, q2, q3, q4⟩ := HBx.out w5 hb
  clear hb
  go_wp2_with fail
  refine wp_loop_rounds 1 ?_
  rw [rounds_succ]
  go_wp2_with fail
  refine Met.intro (hJ _ _ ⟨rfl, by kernel_rfl, by kernel_rfl, by kernel_rfl, by kernel_rfl, by kernel_rfl, by kernel_rfl, by kernel_rfl, ?_⟩)
  exact ⟨O, l, [], 13, HK5.out, by have := HLL.out; omega, by kernel_rfl, by kernel_rfl, rw_nil _, rw_nil _, by simp⟩
theorem sw_need (h : InS w M va ma vc n0 i b mc l x O a W) (hdd : x.d = 9) (hle : x.ks.length ≤ l.length) : SwOk w M va vc n0 i a W := by
  intro J K' Q' hJ hK hQ
  obtain ⟨u, rfl⟩ := h.fr.out
  obtain ⟨z0, z1, z2, z3, z4⟩ := boxCells h.box
  rw [hdd] at z0
  obtain ⟨qa, qc, hqk, _⟩ := h.kp.sk.skc
  have HK := Lib.hid h.kp
  have HO := Lib.hid h.kp.sk.olt
  have HLL := Lib.hid h.ll
  have hi6 := h.i6
  have hll6 : l.length ≤ 6000 := by have := h.ll; omega
  have hbW : b < W.heap.size := (Array.getElem?_eq_some_iff.1 h.box).1
  have HBox := Lib.hid h.box
  have HNo := Lib.hid h.no
  have hxk := h.xk
  have ht := need_at (c := x.kc) h.kp.sk h.kw.kin (by omega)
  have hne : needE 13 l x.ks = if fitAll (l.drop (l.length - x.ks.length)) x.ks = true then 0 else 16 := by unfold needE; rw [if_neg (by omega)]
  rw [hne] at ht
  obtain ⟨D, hD⟩ : ∃ D, l.length - x.ks.length = D := ⟨_, rfl⟩
  rw [hD] at ht
  have hdl : (l.drop D).length = x.ks.length := by rw [List.length_drop]; omega
  obtain ⟨t, htt⟩ : ∃ t, l.drop D = t := ⟨_, rfl⟩
  rw [htt] at ht hdl
  obtain ⟨E, hE⟩ : ∃ E : Int, (if fitAll t x.ks = true then (0 : Int) else 16) = E := ⟨_, rfl⟩
  rw [hE] at ht
  have HT := Lib.hid ht
  have HE := Lib.hid hE
  have HTT := Lib.hid htt
  have HDl := Lib.hid hdl
  have hDl : D + x.ks.length = l.length := by omega
  have e1 : (l.length : Int) - (x.ks.length : Int) = D := by omega
  have HBx := Lib.hid (fun w5 (hb : Below W.heap.size W w5) => boxCells ((hb.block b hbW).trans HBox.out))
  obtain ⟨pa, pc, pe, psrc, pnil, pcap⟩ := h.kp.row
  have HRow := Lib.hid psrc.src
  have HKin := Lib.hid h.kw.kin
  cases pe
  have hdn : decide (l.length < x.ks.length) = false := decide_eq_false (by omega)
  clear h hqk ht hne hD htt hE hdl psrc pnil
  conv => arg 2; whnf
  go_wp2_with fail
  refine HT.out.mono ?_; rintro e w5 ⟨rfl, hb⟩
  have HB5 := Lib.hid hb
  obtain ⟨q0, q1, q2, q3, q4⟩ := HBx.out w5 hb
  clear hb
  go_wp2_with fail
  clear q0 q1 q2 q3 q4
  go_loopw [13, 27] (fun s13 s27 wq => Below w5.heap.size w5 wq ∧ ∃ k : Nat, s27 = .int .i64 k ∧ k ≤ x.ks.length ∧ ((s13 = .int .i64 0 ∧ FitK t x.ks k) ∨ (s13 = .int .i64 16 ∧ fitAll t x.ks = false))) (fun s13 s27 _ => x.ks.length - (intOf s27).toNat)
  case atStart => exact ⟨Below.refl _ _, 0, rfl, Nat.zero_le _, .inl ⟨rfl, fun j o z hj => by omega⟩⟩
  case round =>
    obtain ⟨hbq, k, rfl, hk, hor⟩ := hrel
    have HBq := Lib.hid (bthen HB5.out hbq)
    have HBr := Lib.hid hbq
    clear hbq
    rcases hor with ⟨rfl, hft⟩ | ⟨rfl, hno⟩
    · have HFt := Lib.hid hft
      clear hft
      by_cases hlt : k < x.ks.length
      · obtain ⟨z, hz⟩ : ∃ z, x.ks[k]? = some z := ⟨_, List.getElem?_eq_getElem hlt⟩
        obtain ⟨p, hp⟩ : ∃ p, D + k = p := ⟨_, rfl⟩
        have hpl : p < l.length := by omega
        obtain ⟨o, ho⟩ : ∃ o, l[p]? = some o := ⟨_, List.getElem?_eq_getElem hpl⟩
        have HOo := Lib.hid (show t[k]? = some o by rw [← HTT.out, List.getElem?_drop, hp]; exact ho)
        have HZ := Lib.hid hz
        obtain ⟨mad, rfl⟩ : ∃ ad, ma = some ad := by
          rcases HRow.out with e | ⟨ad, e, _⟩
          · rw [e] at hpl; simp at hpl
          · exact ⟨ad, e⟩
        obtain ⟨kad, hka, hkc⟩ : ∃ ad, x.ka = some ad ∧ wr.cell? (ad.add k) = some (.int .i64 z) := by
          rcases HKin.out.below HBq.out with e | ⟨ad, e, hx⟩
          · rw [e] at hlt; simp at hlt
          · exact ⟨ad, e, hx k z hz⟩
        obtain ⟨o0, o1, o2, o3, o4, o5, o6, o7⟩ := src_obA (HRow.out.below HBq.out) ho
        obtain ⟨_, _, _, _, q4⟩ := HBx.out wr HBq.out
        rw [hka] at q4
        have e2 : (D : Int) + (k : Int) = p := by omega
        have HFit := Lib.hid (fun W => fits_at o z W)
        unfold Ob.val at HFit
        clear hz ho hp hka
        go_wp2_with fail
        have w1 : IntKind.i64.wrap (D : Int) = D := by rw [IntKind.wrap_i64]; omega
        have w2 : IntKind.i64.wrap (p : Int) = p := by rw [IntKind.wrap_i64]; omega
        go_still_tail 13, (by kernel_rfl)
        change wpList _ _ _ _ _ (wr.drewN 1)
        clear w1 w2
        go_wp2_with fail
        refine (HFit.out _).mono ?_; rintro e w6 ⟨rfl, hb6⟩
        have HB6 := Lib.hid (bthen (below_draw HBr.out 1) hb6)
        clear hb6 o0 o1 o2 o3 o4 o5 o6 o7 q4 hkc
        cases hf : fitB o z with
        | true =>
          have HN := Lib.hid (HFt.out.next HOo.out HZ.out hf)
          clear hf
          go_wp2_with fail
          go_roundw
          case rel => exact ⟨HB6.out, k + 1, by go_num, by omega, .inl ⟨rfl, HN.out⟩⟩
          case measure => simp [intOf]; omega
        | false =>
          have HN := Lib.hid (fitAll_no HOo.out HZ.out hf)
          clear hf
          go_wp2_with fail
          go_roundw
          case rel => exact ⟨HB6.out, k + 1, by go_num, by omega, .inr ⟨rfl, HN.out⟩⟩
          case measure => simp [intOf]; omega
      · have hkl : k = x.ks.length := by omega
        subst hkl
        have hy := fitAll_yes HDl.out HFt.out
        have hE0 : E = 0 := by have := HE.out; rw [hy] at this; simpa using this.symm
        subst hE0
        have HKf := Lib.hid (HK.out.step HBq.out)
        clear hy
        go_wp2_with fail
        refine Met.intro (hJ _ _ ⟨rfl, by kernel_rfl, by kernel_rfl, by kernel_rfl, by kernel_rfl, by kernel_rfl, by kernel_rfl, by kernel_rfl, ?_⟩)
        exact ⟨O, l, [], 0, HKf.out, by have := HLL.out; omega, by kernel_rfl, by kernel_rfl, rw_nil _, rw_nil _, by simp⟩
    · have hE1 : E = 16 := by have := HE.out; rw [hno] at this; simpa using this.symm
      subst hE1
      have HKf := Lib.hid (HK.out.step HBq.out)
      clear hno
      by_cases hlt : k < x.ks.length
      · have hki : (k : Int) < (x.ks.length : Int) := by omega
        go_wp2_with fail
        refine Met.intro (hJ _ _ ⟨rfl, by kernel_rfl, by kernel_rfl, by kernel_rfl, by kernel_rfl, by kernel_rfl, by kernel_rfl, by kernel_rfl, ?_⟩)
        exact ⟨O, l, [], 16, HKf.out, by have := HLL.out; omega, by kernel_rfl, by kernel_rfl, rw_nil _, rw_nil _, by simp⟩
      · have hki : ¬ (k : Int) < (x.ks.length : Int) := by omega
        go_wp2_with fail
        refine Met.intro (hJ _ _ ⟨rfl, by kernel_rfl, by kernel_rfl, by kernel_rfl, by kernel_rfl, by kernel_rfl, by kernel_rfl, by kernel_rfl, ?_⟩)
        exact ⟨O, l, [], 16, HKf.out, by have := HLL.out; omega, by kernel_rfl, by kernel_rfl, rw_nil _, rw_nil _, by simp⟩
end
end Go.Proofs.Ytcmoppliipdfgaa
