/-
  The document's Token at a real with a power. (made by gentok3.py)
-/
import Derived.Test.YtaebpjcigajolaaDecTokW3
namespace Go.Proofs.Ytaebpjcigajolaa
open Go.RowKit
open Fx Dc
set_option maxRecDepth 100000 in
set_option maxHeartbeats 1000000 in
theorem refToken_empty (s y P : ByteArray) (at_ : Nat) (hs : s.size ≤ 64) (hc : ¬ rxC s.data.toList) (ho : whoO s.data.toList = none) (hat : at_ < s.size) (hx : s[at_].toNat = 101 ∨ s[at_].toNat = 69)
    (hy : s.extract 0 at_ = y) (hP0 : s.extract (at_ + 1) s.size = P) (hE : noE y.data.toList) (r : Int × Int × Bool × Int) (hv : P.size = 0)
    (hbad : (rdOk 10 P.data.toList && decide (P.data.toList.length ≤ 3)) = false → r = (0, 0, false, 0))
    (_hgood : (rdOk 10 P.data.toList && decide (P.data.toList.length ≤ 3)) = true → r = realT y.data.toList (sgn false (rdV 10 P.data.toList))) (w : World) : Calls Try.prog 26 #[.string s] w (TokPost r w) := by
  have hyl : y.data.toList = s.data.toList.take at_ := by rw [← hy]; exact ext_to2 s at_
  have hys : y.size ≤ 64 := by rw [size_list, hyl, List.length_take, ← size_list]; omega
  have hPs : P.size ≤ 64 := by rw [← hP0]; simp; omega
  have HE : Hid (∀ (k : Nat) (h : k < s.size), k < at_ → s[k].toNat ≠ 101 ∧ s[k].toNat ≠ 69) := by
    intro k h hk
    have hm : s[k] ∈ y.data.toList := by
      rw [hyl]
      apply List.mem_of_getElem? (i := k)
      rw [List.getElem?_take, if_pos hk]; exact getElem_of s k h
    obtain ⟨e1, e2⟩ := hE _ hm
    exact ⟨fun e => e1 (UInt8.toNat_inj.1 e), fun e => e2 (UInt8.toNat_inj.1 e)⟩
  have HBad := Lib.hid hbad
  clear hE hyl hbad
  have v0 : decide (0 < (P.size : Int)) = false := decide_eq_false (by omega)
  obtain ⟨ql, hql⟩ : ∃ ql, P.data.toList = ql := ⟨_, rfl⟩
  rw [hql] at HBad
  have HQL := Lib.hid hql
  clear hql
  have hG := fun w => refDigits_any s (by omega) w
  have hsl : s.data.toList.length = s.size := (size_list s).symm
  have hnl := nDg_le s.data.toList
  obtain ⟨a, ha⟩ : ∃ a, nDg s.data.toList = a := ⟨_, rfl⟩
  have hc2 : ∀ (h : a < s.size), 1 ≤ a → a ≤ 2 → a + 1 < s.size → ((s[a].toNat : Int) == 35) = false := by
    intro h h1 h2 h3
    rw [beq_eq_false_iff_ne]
    intro e
    apply hc
    unfold rxC
    rw [ha]
    refine ⟨h1, h2, by omega, ?_⟩
    rw [getElem_of s a h]
    congr 1
    apply UInt8.toNat_inj.1
    show s[a].toNat = 35
    omega
  have HW := Lib.hid (fun w => refWhole_any s hs w)
  rw [ho] at HW
  rw [ha] at hG hnl
  have HG := Lib.hid hG
  have HC2 := Lib.hid hc2
  have h64 : decide (64 < (s.size : Int)) = false := decide_eq_false (by omega)
  clear hG hc2 ha hc
  go_enter Try.func26, Try.ntmps26
  go_wp2_with fail
  refine (HG.out _).mono ?_; rintro e w' ⟨rfl, rfl⟩
  go_upto_region 4 with fail
  go_cut [51] (fun s51 wx => s51 = .bool false ∧ wx = w.alloc (Obj.cells #[.int .i64 0, .int .i64 0, .string ⟨#[]⟩] 25))
  case first =>
    by_cases a1 : 1 ≤ a
    · have f1 : decide (1 ≤ (a : Int)) = true := decide_eq_true (by omega)
      by_cases a2 : a ≤ 2
      · have f2 : decide ((a : Int) ≤ 2) = true := decide_eq_true (by omega)
        by_cases a3 : a + 1 < s.size
        · have f3 : decide ((a : Int) + 1 < (s.size : Int)) = true := decide_eq_true (by omega)
          have hlt : a < s.size := by omega
          have f4 := HC2.out hlt a1 a2 a3
          go_wp2_with fail
          go_meet
          exact ⟨rfl, rfl⟩
        · have f3 : decide ((a : Int) + 1 < (s.size : Int)) = false := decide_eq_false (by omega)
          go_wp2_with fail
          go_meet
          exact ⟨rfl, rfl⟩
      · have f2 : decide ((a : Int) ≤ 2) = false := decide_eq_false (by omega)
        go_wp2_with fail
        go_meet
        exact ⟨rfl, rfl⟩
    · have f1 : decide (1 ≤ (a : Int)) = false := decide_eq_false (by omega)
      go_wp2_with fail
      go_meet
      exact ⟨rfl, rfl⟩
  case rest =>
    obtain ⟨rfl, rfl⟩ := hcut
    go_wp2_with fail
    refine (HW.out _).mono ?_
    rintro e w' ⟨n, rfl, hn, rfl⟩
    clear hn
    go_wp2_with fail
    go_loop [14, 15] (AtRel s.size at_) (fun _ i => s.size - (intOf i).toNat)
    case atStart => exact ⟨0, by omega, rfl, rfl⟩
    case round =>
      obtain ⟨k, hk, rfl, rfl⟩ := hrel
      have hlt : k < s.size := by omega
      have hi : decide ((k : Int) < (s.size : Int)) = true := decide_eq_true (by omega)
      by_cases hka : k < at_
      · obtain ⟨e1, e2⟩ := HE.out k hlt hka
        have f1 : ((s[k].toNat : Int) == 101) = false := by rw [beq_eq_false_iff_ne]; omega
        have f2 : ((s[k].toNat : Int) == 69) = false := by rw [beq_eq_false_iff_ne]; omega
        clear e1 e2 hx
        go_wp2_with fail
        go_round
        case rel => exact ⟨k + 1, by omega, by go_num, rfl⟩
        case measure => simp [intOf]; omega
      · obtain rfl : k = at_ := by omega
        go_upto_region 34 with fail
        go_cut [137] (fun s137 wx => s137 = .bool true ∧ wx = w.alloc (Obj.cells #[.int .i64 0, .int .i64 0, .string ⟨#[]⟩] 25))
        case first =>
          rcases hx with hx | hx
          · have f1 : ((s[k].toNat : Int) == 101) = true := by rw [hx]; rfl
            clear hx
            go_wp2_with fail
            go_meet
            exact ⟨rfl, rfl⟩
          · have f1 : ((s[k].toNat : Int) == 101) = false := by rw [hx]; rfl
            have f2 : ((s[k].toNat : Int) == 69) = true := by rw [hx]; rfl
            clear hx
            go_wp2_with fail
            go_meet
            exact ⟨rfl, rfl⟩
        case rest =>
          obtain ⟨rfl, rfl⟩ := hcut
          clear hx hka
          have hX : r = (0, 0, false, 0) := HBad.out (by
            have h0 : ql = [] := by rw [← HQL.out]; exact List.eq_nil_of_length_eq_zero (by rw [← size_list]; omega)
            rw [h0]; rfl)
          have HX := Lib.hid hX
          have g1 : decide ((P.size : Int) < 1) = true := decide_eq_true (by omega)
          clear hX
          go_wp2_with fail
          exact bodyPost_ret (v := .tuple #[.agg #[.int .i64 0, .int .i64 0, .string ⟨#[]⟩], .bool false, .int .i64 0]) (by simp [results, Try.results26, go_sem]) rfl ⟨by rw [HX.out]; rfl, (Below.refl _ _).alloc (Nat.le_refl _) _⟩
set_option maxRecDepth 100000 in
set_option maxHeartbeats 1000000 in
theorem refToken_none (s y P : ByteArray) (at_ : Nat) (hs : s.size ≤ 64) (hc : ¬ rxC s.data.toList) (ho : whoO s.data.toList = none) (hat : at_ < s.size) (hx : s[at_].toNat = 101 ∨ s[at_].toNat = 69)
    (hy : s.extract 0 at_ = y) (hP0 : s.extract (at_ + 1) s.size = P) (hE : noE y.data.toList) (r : Int × Int × Bool × Int) (hv : 0 < P.size) (hv1 : P[0].toNat ≠ 45) (hv2 : P[0].toNat ≠ 43)
    (hbad : (rdOk 10 P.data.toList && decide (P.data.toList.length ≤ 3)) = false → r = (0, 0, false, 0))
    (hgood : (rdOk 10 P.data.toList && decide (P.data.toList.length ≤ 3)) = true → r = realT y.data.toList (sgn false (rdV 10 P.data.toList))) (w : World) : Calls Try.prog 26 #[.string s] w (TokPost r w) := by
  have hyl : y.data.toList = s.data.toList.take at_ := by rw [← hy]; exact ext_to2 s at_
  have hys : y.size ≤ 64 := by rw [size_list, hyl, List.length_take, ← size_list]; omega
  have hPs : P.size ≤ 64 := by rw [← hP0]; simp; omega
  have hPl := fun w => refPlain_any y (by omega) w
  obtain ⟨L, hL⟩ : ∃ L, csL y.data.toList = L := ⟨_, rfl⟩
  obtain ⟨b, hb⟩ : ∃ b, csB y.data.toList = b := ⟨_, rfl⟩
  have hcs := fun n => realT_cases y.data.toList n L b hL hb
  have hpd := plD_len L
  have hll : L.length ≤ 64 := by rw [← hL]; have := csL_len y.data.toList; rw [← size_list] at this; omega
  have hnd := nDg_le L
  rw [hL, hb] at hPl
  unfold PlPost at hPl
  obtain ⟨nd, hnd2⟩ : ∃ nd, nDg L = nd := ⟨_, rfl⟩
  rw [hnd2] at hPl hcs hnd
  have HP := Lib.hid hPl
  have HCC := Lib.hid hcs
  have HDL : Hid ((plD L).length ≤ 64) := by unfold Hid; omega
  have HGood := Lib.hid hgood
  clear hPl hL hb hcs hpd hnd2 hgood
  have HE : Hid (∀ (k : Nat) (h : k < s.size), k < at_ → s[k].toNat ≠ 101 ∧ s[k].toNat ≠ 69) := by
    intro k h hk
    have hm : s[k] ∈ y.data.toList := by
      rw [hyl]
      apply List.mem_of_getElem? (i := k)
      rw [List.getElem?_take, if_pos hk]; exact getElem_of s k h
    obtain ⟨e1, e2⟩ := hE _ hm
    exact ⟨fun e => e1 (UInt8.toNat_inj.1 e), fun e => e2 (UInt8.toNat_inj.1 e)⟩
  have HBad := Lib.hid hbad
  clear hE hyl hbad
  have v0 : decide (0 < (P.size : Int)) = true := decide_eq_true (by omega)
  have v1 : ((P[0].toNat : Int) == 45) = false := by rw [beq_eq_false_iff_ne]; omega
  have v2 : ((P[0].toNat : Int) == 43) = false := by rw [beq_eq_false_iff_ne]; omega
  obtain ⟨ql, hql⟩ : ∃ ql, P.data.toList = ql := ⟨_, rfl⟩
  rw [hql] at HBad HGood
  have HQL := Lib.hid hql
  clear hql
  clear hv1 hv2
  have hG := fun w => refDigits_any s (by omega) w
  have hsl : s.data.toList.length = s.size := (size_list s).symm
  have hnl := nDg_le s.data.toList
  obtain ⟨a, ha⟩ : ∃ a, nDg s.data.toList = a := ⟨_, rfl⟩
  have hc2 : ∀ (h : a < s.size), 1 ≤ a → a ≤ 2 → a + 1 < s.size → ((s[a].toNat : Int) == 35) = false := by
    intro h h1 h2 h3
    rw [beq_eq_false_iff_ne]
    intro e
    apply hc
    unfold rxC
    rw [ha]
    refine ⟨h1, h2, by omega, ?_⟩
    rw [getElem_of s a h]
    congr 1
    apply UInt8.toNat_inj.1
    show s[a].toNat = 35
    omega
  have HW := Lib.hid (fun w => refWhole_any s hs w)
  rw [ho] at HW
  rw [ha] at hG hnl
  have HG := Lib.hid hG
  have HC2 := Lib.hid hc2
  have h64 : decide (64 < (s.size : Int)) = false := decide_eq_false (by omega)
  clear hG hc2 ha hc
  go_enter Try.func26, Try.ntmps26
  go_wp2_with fail
  refine (HG.out _).mono ?_; rintro e w' ⟨rfl, rfl⟩
  go_upto_region 4 with fail
  go_cut [51] (fun s51 wx => s51 = .bool false ∧ wx = w.alloc (Obj.cells #[.int .i64 0, .int .i64 0, .string ⟨#[]⟩] 25))
  case first =>
    by_cases a1 : 1 ≤ a
    · have f1 : decide (1 ≤ (a : Int)) = true := decide_eq_true (by omega)
      by_cases a2 : a ≤ 2
      · have f2 : decide ((a : Int) ≤ 2) = true := decide_eq_true (by omega)
        by_cases a3 : a + 1 < s.size
        · have f3 : decide ((a : Int) + 1 < (s.size : Int)) = true := decide_eq_true (by omega)
          have hlt : a < s.size := by omega
          have f4 := HC2.out hlt a1 a2 a3
          go_wp2_with fail
          go_meet
          exact ⟨rfl, rfl⟩
        · have f3 : decide ((a : Int) + 1 < (s.size : Int)) = false := decide_eq_false (by omega)
          go_wp2_with fail
          go_meet
          exact ⟨rfl, rfl⟩
      · have f2 : decide ((a : Int) ≤ 2) = false := decide_eq_false (by omega)
        go_wp2_with fail
        go_meet
        exact ⟨rfl, rfl⟩
    · have f1 : decide (1 ≤ (a : Int)) = false := decide_eq_false (by omega)
      go_wp2_with fail
      go_meet
      exact ⟨rfl, rfl⟩
  case rest =>
    obtain ⟨rfl, rfl⟩ := hcut
    go_wp2_with fail
    refine (HW.out _).mono ?_
    rintro e w' ⟨n, rfl, hn, rfl⟩
    clear hn
    go_wp2_with fail
    go_loop [14, 15] (AtRel s.size at_) (fun _ i => s.size - (intOf i).toNat)
    case atStart => exact ⟨0, by omega, rfl, rfl⟩
    case round =>
      obtain ⟨k, hk, rfl, rfl⟩ := hrel
      have hlt : k < s.size := by omega
      have hi : decide ((k : Int) < (s.size : Int)) = true := decide_eq_true (by omega)
      by_cases hka : k < at_
      · obtain ⟨e1, e2⟩ := HE.out k hlt hka
        have f1 : ((s[k].toNat : Int) == 101) = false := by rw [beq_eq_false_iff_ne]; omega
        have f2 : ((s[k].toNat : Int) == 69) = false := by rw [beq_eq_false_iff_ne]; omega
        clear e1 e2 hx
        go_wp2_with fail
        go_round
        case rel => exact ⟨k + 1, by omega, by go_num, rfl⟩
        case measure => simp [intOf]; omega
      · obtain rfl : k = at_ := by omega
        go_upto_region 34 with fail
        go_cut [137] (fun s137 wx => s137 = .bool true ∧ wx = w.alloc (Obj.cells #[.int .i64 0, .int .i64 0, .string ⟨#[]⟩] 25))
        case first =>
          rcases hx with hx | hx
          · have f1 : ((s[k].toNat : Int) == 101) = true := by rw [hx]; rfl
            clear hx
            go_wp2_with fail
            go_meet
            exact ⟨rfl, rfl⟩
          · have f1 : ((s[k].toNat : Int) == 101) = false := by rw [hx]; rfl
            have f2 : ((s[k].toNat : Int) == 69) = true := by rw [hx]; rfl
            clear hx
            go_wp2_with fail
            go_meet
            exact ⟨rfl, rfl⟩
        case rest =>
          obtain ⟨rfl, rfl⟩ := hcut
          clear hx hka
          by_cases z0 : P.size < 1
          · exfalso; omega
          · have g1 : decide ((P.size : Int) < 1) = false := decide_eq_false (by omega)
            by_cases z3 : 3 < P.size
            · have hX : r = (0, 0, false, 0) := HBad.out (by rw [decide_eq_false (by rw [← HQL.out, ← size_list]; omega), Bool.and_false])
              have HX := Lib.hid hX
              have g2 : decide (3 < (P.size : Int)) = true := decide_eq_true (by omega)
              clear hX
              go_wp2_with fail
              exact bodyPost_ret (v := .tuple #[.agg #[.int .i64 0, .int .i64 0, .string ⟨#[]⟩], .bool false, .int .i64 0]) (by simp [results, Try.results26, go_sem]) rfl ⟨by rw [HX.out]; rfl, (Below.refl _ _).alloc (Nat.le_refl _) _⟩
            · have g2 : decide (3 < (P.size : Int)) = false := decide_eq_false (by omega)
              have hDg := fun w => refDigits_any P (by omega) w
              obtain ⟨j, hj⟩ : ∃ j, nDg P.data.toList = j := ⟨_, rfl⟩
              rw [hj] at hDg
              have HDg := Lib.hid hDg
              clear hDg
              by_cases zd : j = P.size
              · have hall : allDig P.data.toList := nDg_all.1 (by rw [hj, zd, size_list])
                have HAll := Lib.hid hall
                have hTT : r = realT y.data.toList (sgn false (rdV 10 ql)) := HGood.out (by
                  have h1 : rdOk 10 ql = true := by
                    rw [← HQL.out]
                    refine rdOk10.2 ⟨hall, ?_⟩
                    intro e
                    have := size_list P
                    rw [e, List.length_nil] at this; omega
                  rw [h1, decide_eq_true (by rw [← HQL.out, ← size_list]; omega)]; rfl)
                rw [← HQL.out] at hTT
                have HTT := Lib.hid hTT
                have hqll : P.data.toList.length = P.size := (size_list P).symm
                have g3 : ((j : Int) != (P.size : Int)) = false := by rw [zd]; simp
                clear hTT hall hj zd
                go_wp2_with fail
                refine (HDg.out _).mono ?_; rintro e w' ⟨rfl, rfl⟩
                go_wp2_with fail
                go_loop [16, 19] (PwrRel P.data.toList) (fun _ i => P.size - (intOf i).toNat)
                case atStart => exact ⟨0, 0, by omega, by simp, rfl, rfl, rfl⟩
                case round =>
                  obtain ⟨i, n, hi0, hn, rfl, rfl, hr⟩ := hrel
                  have hpw := pow_small (k := i) (by omega)
                  by_cases hil : i < P.size
                  · have hdg : isDig P[i] := HAll.out _ (List.mem_of_getElem? (getElem_of P i hil))
                    rw [drop_byte P i hil, rdD_cons, dig_of hdg] at hr
                    unfold isDig at hdg
                    obtain ⟨d0, d1⟩ := hdg
                    rw [if_pos (by omega)] at hr
                    obtain ⟨m, hm⟩ : ∃ m : Nat, (n : Int) * 10 + ((P[i].toNat : Int) - 48) = (m : Int) := ⟨n * 10 + (P[i].toNat - 48), by omega⟩
                    have hm2 : m < 10 ^ (i + 1) := by rw [Nat.pow_succ]; omega
                    have e : min ((n : Int) * 10 + ((P[i].toNat : Int) - 48)) 4294967296 = (m : Int) := by omega
                    rw [e] at hr
                    have HR := Lib.hid hr
                    have HM2 := Lib.hid hm2
                    have hii : decide ((i : Int) < (P.size : Int)) = true := decide_eq_true (by omega)
                    have hn2 : n ≤ 1000 := by omega
                    clear hr e hm2 hn hpw
                    go_wp2_with fail
                    go_round
                    case rel => exact ⟨i + 1, m, by omega, HM2.out, by go_num, rfl, HR.out⟩
                    case measure => simp [intOf]; omega
                  · have hii : decide ((i : Int) < (P.size : Int)) = false := decide_eq_false (by omega)
                    have e0 : P.data.toList.drop i = [] := List.drop_of_length_le (by omega)
                    rw [e0] at hr
                    have hv3 : rdV 10 P.data.toList = (n : Int) := by unfold rdV; rw [hr]; rfl
                    have HT : Hid (r = realT y.data.toList (n : Int)) := by have := HTT.out; rw [hv3] at this; exact this
                    have HC := Lib.hid (HCC.out (n : Int))
                    have hn2 : n ≤ 1000 := by omega
                    clear hr e0 hv3 hn hpw
                    go_wp2_with fail
                    refine (HP.out _).mono ?_
                    rintro e w' ⟨d, rfl, hd, rfl⟩
                    obtain ⟨p, hp⟩ : ∃ p : Int, (nd : Int) + (n : Int) = p := ⟨_, rfl⟩
                    rcases HC.out with ⟨k1, k2⟩ | ⟨k1, k2, k3, k4⟩ | ⟨R, k1, k2, k3, k4, k5, k6⟩
                    · rw [k1]
                      have HX := Lib.hid (HT.out.trans k2)
                      clear k1 k2 hd HC
                      go_wp2_with fail
                      exact bodyPost_ret (v := .tuple #[.agg #[.int .i64 0, .int .i64 0, .string ⟨#[]⟩], .bool false, .int .i64 0]) (by simp [results, Try.results26, go_sem]) rfl ⟨by rw [HX.out]; rfl, (Below.refl _ _).alloc (Nat.le_refl _) _⟩
                    · rw [k1]
                      have HX := Lib.hid (HT.out.trans k4)
                      have hds : d.size ≤ 64 := len_le hd HDL.out
                      have hSc := fun w => scaled_any d p (by rw [hd]; exact k2) (by omega) (by omega) (by omega) w
                      rw [hd, show scOk (digits (plD L)) p = false by rw [← hp]; exact k3] at hSc
                      obtain ⟨V, hV⟩ : ∃ V : Nat, scN (digits (plD L)) p = V := ⟨_, rfl⟩
                      rw [hV] at hSc
                      have HSc := Lib.hid hSc
                      clear k1 k2 k3 k4 hd hSc hV HC
                      go_wp2_with fail
                      refine (HSc.out (tok0 w)).mono ?_
                      rintro e w1 ⟨rfl, hb1⟩
                      obtain ⟨t0, t1, t2, tf⟩ := tok_cells hb1
                      have HB := Lib.hid hb1
                      clear hb1
                      go_wp2_with fail
                      obtain ⟨q0, q1, q2⟩ := tok_put t0 t1 t2 (.int .i64 0) (.int .i64 0) (.string ⟨#[]⟩)
                      exact bodyPost_ret (results_tok3 Try.results26 _ _ w.heap.size _ _ _ rfl q0 q1 q2) rfl ⟨by rw [HX.out]; rfl, tok_back HB.out _ _ _⟩
                    · rw [k1]
                      have hds : d.size ≤ 64 := len_le hd HDL.out
                      have hSc := fun w => scaled_any d p (by rw [hd]; exact k2) (by omega) (by omega) (by omega) w
                      rw [hd, show scOk (digits (plD L)) p = true by rw [← hp]; exact k3, show scN (digits (plD L)) p = R by rw [← hp]; exact k4] at hSc
                      have HSc := Lib.hid hSc
                      have hX := HT.out.trans k6
                      have hSg := fun w => refSigned_any (R : Int) b w (by omega) (by omega)
                      obtain ⟨V, hV⟩ : ∃ V : Int, sgn b (R : Int) = V := ⟨_, rfl⟩
                      rw [hV] at hSg hX
                      clear k1 k2 k3 k4 k6 hd hSc HC hV
                      cases hK : fits V
                      · rw [hK] at hSg hX
                        simp only [Bool.false_eq_true, if_false] at hSg hX
                        have HSg := Lib.hid hSg
                        have HX := Lib.hid hX
                        clear hSg hX hK
                        go_wp2_with fail
                        refine (HSc.out (tok0 w)).mono ?_
                        rintro e w1 ⟨rfl, hb1⟩
                        obtain ⟨t0, t1, t2, tf⟩ := tok_cells hb1
                        have HB := Lib.hid hb1
                        clear hb1
                        go_wp2_with fail
                        refine (HSg.out _).mono ?_
                        rintro e w' ⟨rfl, rfl⟩
                        go_wp2_with fail
                        obtain ⟨q0, q1, q2⟩ := tok_put t0 t1 t2 (.int .i64 0) (.int .i64 0) (.string ⟨#[]⟩)
                        exact bodyPost_ret (results_tok3 Try.results26 _ _ w.heap.size _ _ _ rfl q0 q1 q2) rfl ⟨by rw [HX.out]; rfl, tok_back HB.out _ _ _⟩
                      · rw [hK] at hSg hX
                        simp only [if_true] at hSg hX
                        have HSg := Lib.hid hSg
                        have HX := Lib.hid hX
                        clear hSg hX hK
                        go_wp2_with fail
                        refine (HSc.out (tok0 w)).mono ?_
                        rintro e w1 ⟨rfl, hb1⟩
                        obtain ⟨t0, t1, t2, tf⟩ := tok_cells hb1
                        have HB := Lib.hid hb1
                        clear hb1
                        go_wp2_with fail
                        refine (HSg.out _).mono ?_
                        rintro e w' ⟨rfl, rfl⟩
                        go_wp2_with fail
                        obtain ⟨q0, q1, q2⟩ := tok_put t0 t1 t2 (.int .i64 2) (.int .i64 V) (.string ⟨#[]⟩)
                        exact bodyPost_ret (results_tok3 Try.results26 _ _ w.heap.size _ _ _ rfl q0 q1 q2) rfl ⟨by rw [HX.out]; rfl, tok_back HB.out _ _ _⟩
              · have hX : r = (0, 0, false, 0) := HBad.out (by
                  cases h : rdOk 10 ql with
                  | false => rfl
                  | true =>
                    exfalso; apply zd
                    rw [← hj, size_list]
                    exact nDg_all.2 (by rw [HQL.out]; exact (rdOk10.1 h).1))
                have HX := Lib.hid hX
                have g3 : ((j : Int) != (P.size : Int)) = true := by rw [bne_iff_ne]; omega
                clear hX hj
                go_wp2_with fail
                refine (HDg.out _).mono ?_; rintro e w' ⟨rfl, rfl⟩
                go_wp2_with fail
                exact bodyPost_ret (v := .tuple #[.agg #[.int .i64 0, .int .i64 0, .string ⟨#[]⟩], .bool false, .int .i64 0]) (by simp [results, Try.results26, go_sem]) rfl ⟨by rw [HX.out]; rfl, (Below.refl _ _).alloc (Nat.le_refl _) _⟩
end Go.Proofs.Ytaebpjcigajolaa
