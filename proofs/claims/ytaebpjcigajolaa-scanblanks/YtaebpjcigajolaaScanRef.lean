/-
  The document's own answers of single bytes, blanks and words, by contracts.
-/
import Derived.Test.YtaebpjcigajolaaScanRow
namespace Go.Proofs.Ytaebpjcigajolaa
open Go.RowKit
open Sc
theorem skp_true_stop {c : UInt8} {s : List UInt8} (h : inCom c = false) : skp true (c :: s) = skp false (c :: s) := by
  have := skp_com (c :: s)
  rw [List.dropWhile_cons, if_neg (by simp [h])] at this
  exact this
theorem refBlank_at (c : UInt8) (w : World) : Calls Try.prog 39 #[.int .u8 c.toNat] w (Says (blnk c) w) := by
  have HB := Lib.hid (blank_nat c)
  unfold Says
  generalize c.toNat = n at *
  go_enter Try.func39, Try.ntmps39
  go_wp2_with fail
  all_goals go_ret
  all_goals refine said ?_
  all_goals rw [HB.out, Bool.eq_iff_iff]
  all_goals simp only [decide_eq_true_eq, Bool.or_eq_true, beq_iff_eq, iff_true] at *
  all_goals omega
theorem refDelim_at (c : UInt8) (w : World) : Calls Try.prog 56 #[.int .u8 c.toNat] w (Says (delim c) w) := by
  have HB := Lib.hid (delim_nat c)
  unfold Says
  generalize c.toNat = n at *
  go_enter Try.func56, Try.ntmps56
  go_wp2_with fail
  all_goals go_ret
  all_goals refine said ?_
  all_goals rw [HB.out]
  all_goals simp only [beq_iff_eq, beq_eq_false_iff_ne, ne_eq] at *
  all_goals first | (apply decide_eq_true; omega) | (apply decide_eq_false; omega)
theorem refRegular_at (c : UInt8) (w : World) : Calls Try.prog 41 #[.int .u8 c.toNat] w (Says (regular c) w) := by
  have H1 := Lib.hid (fun w => refBlank_at c w)
  have H2 := Lib.hid (fun w => refDelim_at c w)
  unfold Says at *
  have e : regular c = (!blnk c && !delim c) := rfl
  rw [e]
  clear e
  generalize c.toNat = n at *
  cases hb : blnk c <;> cases hd : delim c
  all_goals rw [hb] at H1
  all_goals rw [hd] at H2
  all_goals clear hb hd
  all_goals go_enter Try.func41, Try.ntmps41
  all_goals go_wp2_with (first | (go_at_call 39; refine (H1.out _).mono ?_; rintro e w2 ⟨rfl, rfl⟩) | (go_at_call 56; refine (H2.out _).mono ?_; rintro e w2 ⟨rfl, rfl⟩))
  all_goals go_ret
  all_goals exact said rfl
theorem refWord_at {w : World} {N cap p : Nat} {ba : Option Addr} {l : List UInt8} (hrd : RdB w N ba l) (hl : l.length ≤ 100000) (hp : p ≤ l.length) :
    Calls Try.prog 25 #[.slice ba l.length cap, .int .i64 p] w fun e w' => ∃ q, p ≤ q ∧ q ≤ l.length ∧ l.drop q = (l.drop p).dropWhile regular ∧ e = .returned (.int .i64 q) ∧ w' = w := by
  have HR := Lib.hid hrd
  clear hrd
  go_enter Try.func25, Try.ntmps25
  go_wp2_with fail
  go_loop [1] (fun v => ∃ q : Nat, v = .int .i64 q ∧ p ≤ q ∧ q ≤ l.length ∧ (l.drop p).dropWhile regular = (l.drop q).dropWhile regular) (fun v => l.length - (intOf v).toNat)
  case atStart => exact ⟨p, rfl, Nat.le_refl _, hp, rfl⟩
  case round =>
    obtain ⟨q, rfl, hpq, hq, hdw⟩ := hrel
    cases hs : l.drop q with
    | nil =>
      have hql : q = l.length := drop_end hs hq
      have HE := Lib.hid (show l.drop q = (l.drop p).dropWhile regular by rw [hdw, hs]; rfl)
      subst hql
      clear hs hdw hq
      go_wp2_with fail
      go_ret
      exact ⟨l.length, hpq, Nat.le_refl _, HE.out, rfl, rfl⟩
    | cons c s =>
      obtain ⟨hc, hs1, hlt⟩ := drop_at hs
      obtain ⟨b, off, rfl, hbN, hcell⟩ := HR.out q c hc
      rw [hs, List.dropWhile_cons] at hdw
      have HP := Lib.hid (fun w => refRegular_at c w)
      unfold Says at HP
      cases hpr : regular c with
      | true =>
        rw [hpr, if_pos rfl, ← hs1] at hdw
        rw [hpr] at HP
        have HD := Lib.hid hdw
        clear hs hs1 hdw hc hpr
        go_wp2_with (first | (go_at_call 41; refine (HP.out _).mono ?_; rintro e w2 ⟨rfl, rfl⟩))
        go_round
        case rel => exact ⟨q + 1, by go_num, by omega, by omega, HD.out⟩
        case measure => simp [intOf]; omega
      | false =>
        rw [hpr, if_neg (by decide), ← hs] at hdw
        rw [hpr] at HP
        have HE := Lib.hid hdw.symm
        clear hs hs1 hdw hc hpr
        go_wp2_with (first | (go_at_call 41; refine (HP.out _).mono ?_; rintro e w2 ⟨rfl, rfl⟩))
        go_ret
        exact ⟨q, hpq, hq, HE.out, rfl, rfl⟩
set_option maxRecDepth 100000 in
theorem refSkip_at {w : World} {N cap p : Nat} {ba : Option Addr} {l : List UInt8} (hrd : RdB w N ba l) (hl : l.length ≤ 100000) (hp : p ≤ l.length) :
    Calls Try.prog 21 #[.slice ba l.length cap, .int .i64 p] w fun e w' => ∃ q, q ≤ l.length ∧ l.drop q = skp false (l.drop p) ∧ e = .returned (.int .i64 q) ∧ w' = w := by
  have HR := Lib.hid hrd
  clear hrd
  go_enter Try.func21, Try.ntmps21
  go_wp2_with fail
  go_loop [1] (fun v => ∃ q : Nat, v = .int .i64 q ∧ q ≤ l.length ∧ skp false (l.drop p) = skp false (l.drop q)) (fun v => l.length - (intOf v).toNat)
  case atStart => exact ⟨p, rfl, hp, rfl⟩
  case round =>
    obtain ⟨q, rfl, hq, hsk⟩ := hrel
    cases hs : l.drop q with
    | nil =>
      have hql : q = l.length := drop_end hs hq
      have HE := Lib.hid (show l.drop q = skp false (l.drop p) by rw [hsk, hs]; rfl)
      subst hql
      clear hs hsk hq
      go_wp2_with fail
      go_ret
      exact ⟨l.length, Nat.le_refl _, HE.out, rfl, rfl⟩
    | cons c s =>
      obtain ⟨hc, hs1, hlt⟩ := drop_at hs
      by_cases h37 : c = 37
      · subst h37
        obtain ⟨b, off, rfl, hbN, hcell⟩ := HR.out q 37 hc
        rw [hs, skp, if_neg (by decide), if_pos rfl, ← hs1] at hsk
        have HSK := Lib.hid hsk
        have hc37 : w.cell? ⟨b, off + q, none⟩ = some (.int .u8 37) := hcell
        have HSQ := Lib.hid (show skp true (l.drop q) = skp true (l.drop (q + 1)) by rw [hs, ← hs1, skp, if_pos (by decide)])
        have HS := Lib.hid hs
        clear hs hs1 hc hcell hsk
        go_wp2_with fail
        go_loop [1] (fun v => ∃ q2 : Nat, v = .int .i64 q2 ∧ q ≤ q2 ∧ q2 ≤ l.length ∧ skp false (l.drop p) = skp true (l.drop q2)) (fun v => l.length - (intOf v).toNat)
        case atStart => exact ⟨q, rfl, Nat.le_refl _, hq, by rw [HSQ.out]; exact HSK.out⟩
        case round =>
          obtain ⟨q2, rfl, hqq, hq2, hsk2⟩ := hrel
          cases hs2 : l.drop q2 with
          | nil =>
            have hql : q2 = l.length := drop_end hs2 hq2
            have HE := Lib.hid (show skp false (l.drop p) = skp false (l.drop q2) by rw [hsk2, hs2]; rfl)
            have hge : ¬ q2 < l.length := by omega
            clear hs2 hsk2 hql
            go_wp2_with fail
            go_round
            case rel => exact ⟨q2, rfl, hq2, HE.out⟩
            case measure => simp [intOf]; omega
          | cons c2 s2 =>
            obtain ⟨hc2, hs21, hlt2⟩ := drop_at hs2
            obtain ⟨b', off', e', _, hcell2⟩ := HR.out q2 c2 hc2
            cases e'
            cases hpr : inCom c2 with
            | true =>
              have HE := Lib.hid (show skp false (l.drop p) = skp true (l.drop (q2 + 1)) by rw [hsk2, hs2, skp, if_pos hpr, hs21])
              rw [inCom_nat] at hpr
              have hpr := of_decide_eq_true hpr
              have b10 : ((c2.toNat : Int) != 10) = true := by have := beqF (c := c2) (k := 10) hpr.1; simpa [bne] using this
              have b13 : ((c2.toNat : Int) != 13) = true := by have := beqF (c := c2) (k := 13) hpr.2.1; simpa [bne] using this
              have b12 : ((c2.toNat : Int) != 12) = true := by have := beqF (c := c2) (k := 12) hpr.2.2; simpa [bne] using this
              clear hs2 hs21 hc2 hsk2 hpr
              go_wp2_with fail
              go_round
              case rel => exact ⟨q2 + 1, by go_num, by omega, by omega, HE.out⟩
              case measure => simp [intOf]; omega
            | false =>
              have HE := Lib.hid (show skp false (l.drop p) = skp false (l.drop q2) by rw [hsk2, hs2]; exact skp_true_stop hpr)
              have hne : q2 ≠ q := by
                intro e
                subst e
                rw [HS.out] at hs2
                injection hs2 with e1 _
                subst e1
                exact absurd hpr (by decide)
              rw [inCom_nat] at hpr
              have hpr := of_decide_eq_false hpr
              have hor : c2.toNat = 10 ∨ c2.toNat = 13 ∨ c2.toNat = 12 := by omega
              clear hs2 hs21 hc2 hsk2 hpr
              rcases hor with h | h | h
              · have b10 : ((c2.toNat : Int) != 10) = false := by simp [h]
                clear h
                go_wp2_with fail
                go_round
                case rel => exact ⟨q2, rfl, hq2, HE.out⟩
                case measure => simp [intOf]; omega
              · have b10 : ((c2.toNat : Int) != 10) = true := by have := beqF (c := c2) (k := 10) (by omega); simpa [bne] using this
                have b13 : ((c2.toNat : Int) != 13) = false := by simp [h]
                clear h
                go_wp2_with fail
                go_round
                case rel => exact ⟨q2, rfl, hq2, HE.out⟩
                case measure => simp [intOf]; omega
              · have b10 : ((c2.toNat : Int) != 10) = true := by have := beqF (c := c2) (k := 10) (by omega); simpa [bne] using this
                have b13 : ((c2.toNat : Int) != 13) = true := by have := beqF (c := c2) (k := 13) (by omega); simpa [bne] using this
                have b12 : ((c2.toNat : Int) != 12) = false := by simp [h]
                clear h
                go_wp2_with fail
                go_round
                case rel => exact ⟨q2, rfl, hq2, HE.out⟩
                case measure => simp [intOf]; omega
      · obtain ⟨b, off, rfl, hbN, hcell⟩ := HR.out q c hc
        have b37 : ((c.toNat : Int) == 37) = false := beqF (k := 37) (fun e => h37 (UInt8.toNat_inj.1 (e.trans rfl)))
        have HP := Lib.hid (fun w => refBlank_at c w)
        unfold Says at HP
        cases hbl : blnk c with
        | true =>
          rw [hbl] at HP
          have HE := Lib.hid (show skp false (l.drop p) = skp false (l.drop (q + 1)) by rw [hsk, hs, skp, if_pos hbl, hs1])
          clear hs hs1 hc hsk h37 hbl
          go_wp2_with (first | (go_at_call 39; refine (HP.out _).mono ?_; rintro e w2 ⟨rfl, rfl⟩))
          go_round
          case rel => exact ⟨q + 1, by go_num, by omega, HE.out⟩
          case measure => simp [intOf]; omega
        | false =>
          rw [hbl] at HP
          have HE := Lib.hid (show l.drop q = skp false (l.drop p) by rw [hsk, hs, skp_stop hbl h37])
          clear hs hs1 hc hsk h37 hbl
          go_wp2_with (first | (go_at_call 39; refine (HP.out _).mono ?_; rintro e w2 ⟨rfl, rfl⟩))
          go_ret
          exact ⟨q, hq, HE.out, rfl, rfl⟩
end Go.Proofs.Ytaebpjcigajolaa
