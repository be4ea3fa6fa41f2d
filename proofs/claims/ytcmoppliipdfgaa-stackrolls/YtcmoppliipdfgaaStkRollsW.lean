/-
  The law StackRolls, walked.
-/
import Derived.Test.YtcmoppliipdfgaaStkLaws
import Derived.Deep.DeepCutAuto
namespace Go.Proofs.Ytcmoppliipdfgaa
open Go.RowKit
open St Stk
set_option maxRecDepth 100000 in
set_option maxHeartbeats 2000000 in
theorem rolls_walk {w : World} {a : Option Addr} {c n : Nat} {j : Int} {l : List Ob} (h : SrcO w a l) (hc : a = none → c = 0) (hm : (l.length : Int) ≤ 9223372036854775807) (hn : n ≤ 255) (hj : -2147483648 ≤ j ∧ j ≤ 2147483647) :
    Calls Try.prog 7 #[.slice a l.length c, .int .u8 n, .int .i32 j] w fun e w' => e = .returned (.bool true) ∧ Below w.heap.size w w' := by
  have HN := Lib.hid (st_new 1000 1 2 w (by decide))
  rw [show max (1000 : Int) 0 = 1000 from rfl] at HN
  obtain ⟨hj1, hj2⟩ := hj
  by_cases hbig : 200 < l.length
  · have hbi : (200 : Int) < (l.length : Int) := by omega
    clear h hc
    go_enter Try.func7, Try.ntmps7
    go_wp2_with fail
    refine HN.out.mono ?_; rintro e w1 ⟨rfl, hst⟩
    have HS := Lib.hid hst
    clear hst
    go_wp2_with fail
    refine (answers07 _).mono ?_; rintro e w2 ⟨rfl, hb⟩
    have HS2 := Lib.hid (HS.out.step hb)
    clear hb
    go_wp2_with fail
    refine (answers07 _).mono ?_; rintro e w3 ⟨rfl, hb⟩
    have HS3 := Lib.hid (HS2.out.step hb).bel
    clear hb
    go_wp2_with fail
    go_ret
    exact ⟨rfl, HS3.out⟩
  · have hbi : ¬ (200 : Int) < (l.length : Int) := by omega
    have hd1 : decide ((200 : Int) < (l.length : Int)) = false := decide_eq_false hbi
    have hd2 : decide (200 < l.length) = false := decide_eq_false hbig
    have HSrc := Lib.hid h
    have HC := Lib.hid hc
    clear h hc
    obtain ⟨k, hk⟩ : ∃ k : Nat, (n : Int) % ((l.length : Int) + 1) = k := ⟨n % (l.length + 1), by simp⟩
    have hkl : k ≤ l.length := by
      have h1 := Int.emod_lt_of_pos (n : Int) (show (0 : Int) < (l.length : Int) + 1 by omega)
      omega
    go_enter Try.func7, Try.ntmps7
    have HK := Lib.hid hk
    clear hk
    go_wp2_with fail
    refine HN.out.mono ?_; rintro e w1 ⟨rfl, hst⟩
    have HS := Lib.hid hst
    clear hst
    go_wp2_with fail
    refine (answers07 _).mono ?_; rintro e w2 ⟨rfl, hb⟩
    have hs2 := HS.out.step hb
    obtain ⟨B, c2, w3, hr, hb3, hB, hrow⟩ := copiedO (HSrc.out.below hs2.bel) HC.out (by omega) 34
    have HS3 := Lib.hid (hs2.step hb3)
    have HPush := Lib.hid (st_push (c := c2) HS3.out hrow.src (fun e => by cases e) (by simp; omega) (by simp; omega))
    rw [List.nil_append] at HPush
    have HR := Lib.hid hr
    clear hb hs2 hr hb3 hB hrow
    go_wp2_with (at_builtin; (refine wpList_append_run7 rfl (.tmp 20) (.tmp 21) 34 34 34 (.slice (some ⟨B, 0, none⟩) l.length c2) rfl rfl _ _ rfl rfl HR.out ?_))
    refine HPush.out.mono ?_; rintro e w4 ⟨rfl, hst⟩
    have HS4 := Lib.hid hst
    clear hst
    go_upto_if 34 with (fail)
    go_cut [8] (fun s8 wx => s8 = .int .i64 k ∧ wx = w4)
    case first =>
      by_cases h0 : 0 < l.length
      · have h0i : (0 : Int) < (l.length : Int) := by omega
        go_wp2_with fail
        go_meet
        exact ⟨by rw [HK.out], rfl⟩
      · have h0i : ¬ (0 : Int) < (l.length : Int) := by omega
        have hk0 : k = 0 := by omega
        go_wp2_with fail
        go_meet
        exact ⟨by rw [hk0]; rfl, rfl⟩
    case rest =>
      obtain ⟨rfl, rfl⟩ := hcut
      have hkl2 : k ≤ (rol k (upOf k j) l).length := by rw [rol_len]; exact hkl
      have HR1 := Lib.hid (st_roll (j := j) HS4.out hkl)
      go_wp2_with fail
      refine HR1.out.mono ?_; rintro e w5 ⟨rfl, hst⟩
      have hr2 := st_roll (j := -j) hst hkl2
      have hback : rol k (upOf k (-j)) (rol k (upOf k j) l) = l := by
        by_cases h0 : k = 0
        · subst h0; rw [rol_none, rol_none]
        · exact rol_back hkl (by omega) j
      rw [hback] at hr2
      have HR2 := Lib.hid hr2
      clear hst hr2 hback hkl2
      go_wp2_with fail
      refine HR2.out.mono ?_; rintro e w6 ⟨rfl, hst⟩
      have HAll := Lib.hid (st_all hst)
      clear hst
      go_wp2_with fail
      refine HAll.out.mono ?_; rintro e w7 ⟨aa, ac, rfl, hsl, hb7, hst, _⟩
      have HS7 := Lib.hid hst
      have HSame := Lib.hid (same_yes (ca := ac) (cb := c) hsl.src (HSrc.out.below hst.bel) (by omega))
      clear hsl hb7 hst
      go_wp2_with fail
      refine HSame.out.mono ?_; rintro e w8 ⟨rfl, hb8⟩
      have HS8 := Lib.hid (HS7.out.step hb8)
      clear hb8
      go_wp2_with fail
      go_loopw [9] (fun s9 wr => ∃ i : Nat, s9 = .int .i64 i ∧ i ≤ k ∧ Stt w wr w.heap.size 1000 1 2 (rol k i l)) (fun s9 _ => k - (intOf s9).toNat)
      case atStart => exact ⟨0, rfl, Nat.zero_le _, by rw [rol_zero]; exact HS8.out⟩
      case round =>
        obtain ⟨i, rfl, hik, hst⟩ := hrel
        by_cases hlt : i < k
        · have hr := st_roll (n := k) (j := 1) hst (by rw [rol_len]; exact hkl)
          rw [rol_step hkl hlt] at hr
          have HR := Lib.hid hr
          clear hr hst
          go_wp2_with fail
          refine HR.out.mono ?_; rintro e w9 ⟨rfl, hst⟩
          have HS9 := Lib.hid hst
          clear hst
          go_wp2_with fail
          go_roundw
          case rel => exact ⟨i + 1, by go_num, by omega, HS9.out⟩
          case measure => simp [intOf]; omega
        · have hik2 : i = k := by omega
          subst hik2
          rw [rol_all hkl] at hst
          have HAll := Lib.hid (st_all hst)
          clear hst
          go_wp2_with fail
          refine HAll.out.mono ?_; rintro e w9 ⟨aa, ac, rfl, hsl, hb9, hst, _⟩
          have HS9 := Lib.hid hst
          have HSame := Lib.hid (same_yes (ca := ac) (cb := c) hsl.src (HSrc.out.below hst.bel) (by omega))
          clear hsl hb9 hst
          go_wp2_with fail
          refine HSame.out.mono ?_; rintro e w10 ⟨rfl, hb10⟩
          have HS10 := Lib.hid (HS9.out.step hb10).bel
          clear hb10
          go_wp2_with fail
          go_ret
          exact ⟨rfl, HS10.out⟩
theorem rolls_law {w : World} {a : Option Addr} {c : Nat} {z j : Int} {l : List Ob} (h : SrcO w a l) (hc : a = none → c = 0) (hl : l.length ≤ c) (hb : c ≤ maxLen) (w1 : (Lit.int .u8 z).wf = true) (w2 : (Lit.int .i32 j).wf = true) :
    Calls Try.prog 7 #[.slice a l.length c, .int .u8 z, .int .i32 j] w fun e w' => e = .returned (.bool true) ∧ Below w.heap.size w w' := by
  have u1 : 0 ≤ z ∧ z ≤ 255 := by simpa [Lit.wf, IntKind.min, IntKind.max, IntKind.signed, IntKind.bits] using w1
  have u2 : -2147483648 ≤ j ∧ j ≤ 2147483647 := by simpa [Lit.wf, IntKind.min, IntKind.max, IntKind.signed, IntKind.bits] using w2
  unfold maxLen at hb
  obtain ⟨b, rfl⟩ : ∃ b : Nat, z = b := ⟨z.toNat, by omega⟩
  exact rolls_walk h hc (by omega) (by omega) u2
end Go.Proofs.Ytcmoppliipdfgaa
