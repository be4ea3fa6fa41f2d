/-
  The law StackActs, walked.
-/
import Derived.Test.YtcmoppliipdfgaaStkSw2
import Derived.Test.YtcmoppliipdfgaaStkSw3
import Derived.Test.YtcmoppliipdfgaaStkSw4
import Derived.Test.YtcmoppliipdfgaaStkSw5
import Derived.Test.YtcmoppliipdfgaaStkSw6
import Derived.Test.YtcmoppliipdfgaaStkSw7
import Derived.Test.YtcmoppliipdfgaaStkSw8
import Derived.Test.YtcmoppliipdfgaaFrame364
import Derived.Deep.DeepCutAuto
import Derived.Deep.CutBlock
namespace Go.Proofs.Ytcmoppliipdfgaa
open Go.RowKit
open St Stk
/-- the frame at the loop's head -/
structure WI (w : World) (M : Int) (va : Option Addr) (vc : Nat) (L : List Kc) (a : Act) (wr : World) : Prop where
  dn : a.defers = []
  sz : a.tmps.size = 364
  s0 : a.tmps.getD 0 undef = .int .i64 M
  s1 : a.tmps.getD 1 undef = .slice va L.length vc
  s5 : a.tmps.getD 5 undef = .int .i64 12
  s6 : a.tmps.getD 6 undef = .int .i64 13
  s7 : a.tmps.getD 7 undef = .pointer (some ⟨w.heap.size, 0, none⟩)
  rel : ∃ (i : Nat) (O : Nat → Prop) (l : List Ob), a.tmps.getD 9 undef = .int .i64 i ∧ i ≤ 60 ∧ i ≤ L.length ∧ l.length ≤ 100 * i ∧ Kp w w.heap.size M O wr (a.tmps.getD 8 undef) l l
/-- the switch, whatever the call -/
theorem sw_all {w W : World} {M : Int} {va ma : Option Addr} {vc n0 i b mc : Nat} {l : List Ob} {x : Kc} {O : Nat → Prop} {a : Act} (h : InS w M va ma vc n0 i b mc l x O a W) : SwOk w M va vc n0 i a W := by
  have hll : l.length ≤ 6000 := by have := h.ll; have := h.i6; omega
  by_cases h1 : x.d = 1
  · by_cases hf : (l.length : Int) + x.l.length ≤ M
    · exact sw_push_yes h h1 hf
    · exact sw_push_no h h1 hf
  by_cases h2 : x.d = 2
  · by_cases hl : l = []
    · exact sw_pop_no h h2 hl
    · have hp := List.length_pos_iff.2 hl
      obtain ⟨m, hm⟩ : ∃ m, l.length = m + 1 := ⟨l.length - 1, by omega⟩
      exact sw_pop_yes h h2 hm (List.getElem?_eq_getElem (by omega))
  by_cases h3 : x.d = 3
  · by_cases hn : x.n < 0
    · exact sw_take_neg h h3 hn
    · by_cases hn2 : (l.length : Int) < x.n
      · exact sw_take_far h h3 (by omega) hn2
      · cases ma with
        | none => exact sw_take_none h h3 (by omega) (by omega) rfl
        | some mad =>
          by_cases he : (l.length : Int) - x.n = mc
          · exact sw_take_end h h3 (by omega) (by omega) rfl he
          · exact sw_take_some h h3 (by omega) (by omega) rfl he
  by_cases h4 : x.d = 4
  · by_cases hn : x.n < 0
    · exact sw_top_neg h h4 hn
    · by_cases hn2 : (l.length : Int) ≤ x.n
      · exact sw_top_far h h4 (by omega) hn2
      · obtain ⟨K, hK⟩ : ∃ K : Nat, x.n = K := ⟨x.n.toNat, by omega⟩
        exact sw_top_yes h h4 hK (by omega) rfl (List.getElem?_eq_getElem (by omega))
  by_cases h5 : x.d = 5
  · by_cases hn : x.n < 0
    · exact sw_swap_neg h h5 hn
    · by_cases hn2 : (l.length : Int) ≤ x.n
      · exact sw_swap_far h h5 (by omega) hn2
      · obtain ⟨K, hK⟩ : ∃ K : Nat, x.n = K := ⟨x.n.toNat, by omega⟩
        exact sw_swap_yes h h5 hK (by omega) rfl
  by_cases h6 : x.d = 6
  · by_cases hn : x.n < 0
    · exact sw_roll_neg h h6 hn
    · by_cases hn2 : (l.length : Int) < x.n
      · exact sw_roll_far h h6 (by omega) hn2
      · obtain ⟨K, hK⟩ : ∃ K : Nat, x.n = K := ⟨x.n.toNat, by omega⟩
        by_cases h0 : K = 0
        · exact sw_roll_zero h h6 (by rw [hK, h0]; rfl)
        · exact sw_roll_yes h h6 hK (by omega) (by omega)
  by_cases h7 : x.d = 7
  · exact sw_mark h h7
  by_cases h8 : x.d = 8
  · by_cases hM : (x.l.length : Int) ≤ M
    · exact sw_reset_all h h8 hM
    · have := h.m0
      exact sw_reset_cut (Mn := M.toNat) h h8 (by omega) (by omega)
  by_cases h9 : x.d = 9
  · by_cases hk : l.length < x.ks.length
    · exact sw_need_far h h9 hk
    · exact sw_need h h9 (by omega)
  exact sw_none h h1 h2 h3 h4 h5 h6 h7 h8 h9
set_option maxRecDepth 100000 in
set_option maxHeartbeats 4000000 in
theorem acts_walk {w : World} {v : Value} {L : List Kc} {M0 : Int} (hA : KActs w v L) (hM : -9223372036854775808 ≤ M0 ∧ M0 ≤ 9223372036854775807) :
    Calls Try.prog 6 #[.int .i64 M0, v] w fun e w' => e = .returned (.bool true) ∧ Below w.heap.size w w' := by
  obtain ⟨va, vc, rfl⟩ : ∃ va vc, v = .slice va L.length vc := by
    rcases hA.row with ⟨rfl, rfl⟩ | ⟨ad, cap, rfl, _⟩
    · exact ⟨none, 0, rfl⟩
    · exact ⟨_, _, rfl⟩
  obtain ⟨M, hMx⟩ : ∃ M, max M0 0 = M := ⟨_, rfl⟩
  have hN := skNew_at M0 12 13 w hM.2
  rw [hMx] at hN
  have HN := Lib.hid hN
  have hfewL := hA.few
  have HA := Lib.hid hA
  obtain ⟨hM1, hM2⟩ := hM
  have HMx := Lib.hid hMx
  have hMn : 0 ≤ M ∧ M ≤ 9223372036854775807 := by omega
  obtain ⟨hMn0, hMn1⟩ := hMn
  clear hA hN hMx
  go_enter Try.func6, Try.ntmps6
  go_wp2_with fail
  refine HN.out.mono ?_; rintro e w1 ⟨rfl, hsk, hb1⟩
  have HS := Lib.hid (And.intro hsk hb1)
  clear hsk hb1
  go_wp2_with fail
  refine (answers07 _).mono ?_; rintro e w2 ⟨rfl, hb⟩
  have HK2 := Lib.hid (show Kp w w.heap.size M (fun k => k = w.heap.size) w2 (.slice none 0 0) [] [] from ⟨HS.out.1.below hb, fun k hk => by omega, bthen HS.out.2 hb, none, 0, rfl, .inl rfl, fun _ => rfl, Nat.le_refl _⟩)
  clear hb
  go_upto_if 39 with (fail)
  go_cut [0] (fun s0 wx => s0 = .int .i64 M ∧ wx = w2)
  case first =>
    by_cases h0 : M0 < 0
    · have hm : M = 0 := by have := HMx.out; omega
      go_wp2_with fail
      go_meet
      exact ⟨by rw [hm], rfl⟩
    · have hm : M = M0 := by have := HMx.out; omega
      go_wp2_with fail
      go_meet
      exact ⟨by rw [hm], rfl⟩
  case rest =>
  obtain ⟨rfl, rfl⟩ := hcut
  clear HMx hM1 hM2
  go_wp2_with fail
  refine wp_loop (WI w M va vc L) (fun a _ => 60 - (intOf (a.tmps.getD 9 undef)).toNat) ⟨rfl, by kernel_rfl, by kernel_rfl, by kernel_rfl, by kernel_rfl, by kernel_rfl, by kernel_rfl, 0, _, [], by kernel_rfl, Nat.zero_le _, Nat.zero_le _, by simp, HK2.out⟩ ?_
  intro fa wr hI
  obtain ⟨i, O, l, h9, hi60, hiL, hll, hk⟩ := hI.rel
  obtain ⟨u, hu, ha⟩ := frame364 fa hI.dn hI.sz
  have g0 := (hu 0).trans hI.s0
  have g1 := (hu 1).trans hI.s1
  have g5 := (hu 5).trans hI.s5
  have g6 := (hu 6).trans hI.s6
  have g7 := (hu 7).trans hI.s7
  have g9 := (hu 9).trans h9
  obtain ⟨ma, mc, g8, _⟩ := hk.row
  rw [g8] at hk
  have g8 := (hu 8).trans g8
  clear hI h9 hu
  rw [g0, g1, g5, g6, g7, g8, g9] at ha
  subst ha
  clear g0 g1 g5 g6 g7 g8 g9
  have HK := Lib.hid hk
  next =>
    by_cases hlt : i < L.length ∧ i < 60
    · obtain ⟨hlt1, hlt2⟩ := hlt
      obtain ⟨⟨d, n, j, la, xl, lc, ka, ks, kc⟩, hx⟩ : ∃ x, L[i]? = some x := ⟨_, List.getElem?_eq_getElem hlt1⟩
      have hAr := HA.out.below hk.bel
      rcases hAr.row with ⟨e, e0⟩ | ⟨ad, cap, e, hc⟩
      · rw [e0] at hlt1; simp at hlt1
      cases e
      have hcx := hc i _ hx
      have x0 : wr.cell? (ad.add (i * 5)) = some (.int .i64 d) := hcx 0 (by omega)
      have x1 : wr.cell? (ad.add (i * 5 + 1)) = some (.int .i64 n) := hcx 1 (by omega)
      have x2 : wr.cell? (ad.add (i * 5 + 2)) = some (.int .i64 j) := hcx 2 (by omega)
      have x3 : wr.cell? (ad.add (i * 5 + 3)) = some (.slice la xl.length lc) := hcx 3 (by omega)
      have x4 : wr.cell? (ad.add (i * 5 + 4)) = some (.slice ka ks.length kc) := hcx 4 (by omega)
      have yy1 := x1
      rw [addr_two _ _ _ (by decide)] at yy1
      have yy2 := x2
      rw [addr_two _ _ _ (by decide)] at yy2
      have yy3 := x3
      rw [addr_two _ _ _ (by decide)] at yy3
      have yy4 := x4
      rw [addr_two _ _ _ (by decide)] at yy4
      have hli : (i : Int) < (L.length : Int) := by omega
      have hli3 : (i : Int) < 60 := by omega
      have hkw := hAr.each _ (List.mem_of_getElem? hx)
      have hw1 := below1 wr (kcC ⟨d, n, j, la, xl, lc, ka, ks, kc⟩)
      have HK1 := Lib.hid (hk.step hw1)
      have HW1 := Lib.hid (hkw.below hw1)
      have hbx := heap_alloc_new wr (kcC ⟨d, n, j, la, xl, lc, ka, ks, kc⟩)
      unfold kcC at HK1 HW1 hbx
      have hn0 : -9223372036854775808 ≤ n ∧ n ≤ 9223372036854775807 := hkw.n0
      have hj0 : -9223372036854775808 ≤ j ∧ j ≤ 9223372036854775807 := hkw.j0
      have HBx := Lib.hid hbx
      have HW0 := Lib.hid (HA.out.each _ (List.mem_of_getElem? hx))
      have hlcm : xl.length ≤ maxLen := Nat.le_trans hkw.cap hkw.cm
      have hkcm := hkw.kn
      unfold maxLen at hlcm hkcm
      clear hc hcx hAr hk hx hkw hw1 hbx
      by_cases hskip : 100 < xl.length ∨ 100 < ks.length
      · by_cases hs1 : 100 < xl.length
        · have hs1i : (100 : Int) < (xl.length : Int) := by omega
          go_wp2_with fail
          refine ⟨?rel, ?measure⟩
          case rel => exact ⟨rfl, by kernel_rfl, by kernel_rfl, by kernel_rfl, by kernel_rfl, by kernel_rfl, by kernel_rfl, i + 1, O, l, by kernel_rfl, by omega, by omega, by omega, HK1.out⟩
          case measure => simp [intOf]; omega
        · have hs1i : ¬ (100 : Int) < (xl.length : Int) := by omega
          have hs2 : (100 : Int) < (ks.length : Int) := by omega
          go_wp2_with fail
          refine ⟨?rel, ?measure⟩
          case rel => exact ⟨rfl, by kernel_rfl, by kernel_rfl, by kernel_rfl, by kernel_rfl, by kernel_rfl, by kernel_rfl, i + 1, O, l, by kernel_rfl, by omega, by omega, by omega, HK1.out⟩
          case measure => simp [intOf]; omega
      · have hs1 : xl.length ≤ 100 := by omega
        have hs2 : ks.length ≤ 100 := by omega
        have hs1i : ¬ (100 : Int) < (xl.length : Int) := by omega
        have hs2i : ¬ (100 : Int) < (ks.length : Int) := by omega
        clear hskip
        go_upto_block 2 with (fail)
        clear x0 x1 x2 x3 x4 yy1 yy2 yy3 yy4
        refine wp_cut (PW w M (some ad) vc L.length i) ?rest ?first
        case first =>
          intro J2 K2 hJ2 hK2
          exact sw_all (x := ⟨d, n, j, la, xl, lc, ka, ks, kc⟩) (b := wr.heap.size) ⟨⟨rfl, by kernel_rfl, by kernel_rfl, by kernel_rfl, by kernel_rfl, by kernel_rfl, by kernel_rfl, by kernel_rfl, by kernel_rfl, by kernel_rfl, by kernel_rfl, by kernel_rfl, by kernel_rfl, by kernel_rfl, by kernel_rfl, by kernel_rfl⟩, HK1.out, HW1.out, HW0.out, HBx.out, fun e => by have := HK.out.sk.olt _ e; omega, hll, by omega, hs1, hs2, hMn0, hMn1⟩ J2 K2 _ hJ2 hK2 (fun _ _ _ _ _ h => h)
        case rest =>
          intro fb wc hP
          obtain ⟨u2, hu2, hb2⟩ := frame364 fb hP.dn hP.sz
          have g0 := (hu2 0).trans hP.s0
          have g1 := (hu2 1).trans hP.s1
          have g5 := (hu2 5).trans hP.s5
          have g6 := (hu2 6).trans hP.s6
          have g7 := (hu2 7).trans hP.s7
          have g9 := (hu2 9).trans hP.s9
          have hcut := hP.pos
          rw [← hu2 8, ← hu2 12, ← hu2 13, ← hu2 14, ← hu2 15] at hcut
          clear hP hu2
          obtain ⟨O2, l2, x2, E, hk2, hl2, g12, g13, ⟨ga, gc, g14, hg⟩, ⟨ta, tc, g15, ht⟩, hx2⟩ := hcut
          have hl6 : l2.length ≤ 6000 := by omega
          have HSame := Lib.hid (same_yes (ca := gc) (cb := tc) hg ht hx2)
          obtain ⟨na, nc, g8, hna, hnn, hnc⟩ := hk2.row
          rw [g8] at hk2
          rw [g0, g1, g5, g6, g7, g8, g9, g12, g13, g14, g15] at hb2
          subst hb2
          clear g0 g1 g5 g6 g7 g8 g9 g12 g13 g14 g15 hna
          have HK3 := Lib.hid hk2
          clear hk2 hg ht HBx HK HK1 HW1
          go_wp2_with fail
          refine HSame.out.mono ?_; rintro e w5 ⟨rfl, hb⟩
          have HK5 := Lib.hid (HK3.out.step hb)
          have HLen := Lib.hid (skLen_at HK5.out.sk)
          clear hb
          go_wp2_with fail
          refine HLen.out.mono ?_; rintro e w6 ⟨rfl, rfl⟩
          have HAll := Lib.hid (skAll_at HK5.out.sk)
          go_wp2_with fail
          refine HAll.out.mono ?_; rintro e w7 ⟨v7, rfl, hsl, hb7, _⟩
          obtain ⟨qa, qc, rfl, _⟩ := hsl.form
          have HK7 := Lib.hid (HK5.out.step hb7)
          obtain ⟨ra, rc, re, hra, _⟩ := HK7.out.row
          cases re
          have HSm := Lib.hid (same_yes (ca := qc) (cb := nc) hsl.src hra.src (by omega))
          clear hsl hb7 hra
          go_wp2_with fail
          refine HSm.out.mono ?_; rintro e w8 ⟨rfl, hb8⟩
          have HK8 := Lib.hid (HK7.out.step hb8)
          clear hb8
          go_wp2_with fail
          refine ⟨?rel, ?measure⟩
          case rel => exact ⟨rfl, by kernel_rfl, by kernel_rfl, by kernel_rfl, by kernel_rfl, by kernel_rfl, by kernel_rfl, i + 1, O2, l2, by kernel_rfl, by omega, by omega, hl2, HK8.out⟩
          case measure => simp [intOf]; omega
    · have HB := Lib.hid hk.bel
      clear hk
      by_cases h1 : i < L.length
      · have h2 : i = 60 := by omega
        subst h2
        have hli : (60 : Int) < (L.length : Int) := by omega
        go_wp2_with fail
        go_ret
        exact ⟨rfl, HB.out⟩
      · have h2 : i = L.length := by omega
        subst h2
        go_wp2_with fail
        go_ret
        exact ⟨rfl, HB.out⟩
end Go.Proofs.Ytcmoppliipdfgaa
