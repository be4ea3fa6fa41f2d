/-
  The contracts of the document's Hex, Small and whole.
-/
import Derived.Test.YtaebpjcigajolaaDecTokM
namespace Go.Proofs.Ytaebpjcigajolaa
open Go.RowKit
open Fx Dc
namespace Dc
/-- what a byte counts as a digit; 99 of any other -/
def hexU (c : Int) : Int := if 48 ≤ c ∧ c ≤ 57 then c - 48 else if 97 ≤ c ∧ c ≤ 122 then c - 87 else if 65 ≤ c ∧ c ≤ 90 then c - 55 else 99
theorem hexU_bd (c : Int) : 0 ≤ hexU c ∧ hexU c ≤ 99 := by
  unfold hexU
  split
  · omega
  · split
    · omega
    · split <;> omega
theorem hexU_dig (c B : Int) (hB : B ≤ 36) : (hexU c < B ↔ digU c < B) ∧ (hexU c < B → hexU c = digU c) := by
  unfold hexU digU
  split
  · exact ⟨Iff.rfl, fun _ => rfl⟩
  · split
    · exact ⟨Iff.rfl, fun _ => rfl⟩
    · split
      · exact ⟨Iff.rfl, fun _ => rfl⟩
      · exact ⟨by omega, by omega⟩
end Dc
theorem refHex_any (c : Int) (h0 : 0 ≤ c) (h1 : c ≤ 255) (w : World) : Calls Try.prog 40 #[.int .u8 c] w fun e w' => e = .returned (.int .i64 (hexU c)) ∧ w = w' := by
  unfold hexU
  by_cases a1 : 48 ≤ c
  · by_cases a2 : c ≤ 57
    · rw [if_pos ⟨a1, a2⟩]
      go_enter Try.func40, Try.ntmps40
      go_wp2_with fail
      go_ret
      exact ⟨rfl, rfl⟩
    · rw [if_neg (by omega)]
      by_cases b1 : 97 ≤ c
      · by_cases b2 : c ≤ 122
        · rw [if_pos ⟨b1, b2⟩]
          go_enter Try.func40, Try.ntmps40
          go_wp2_with fail
          go_ret
          exact ⟨ret_int (by omega), rfl⟩
        · rw [if_neg (by omega), if_neg (by omega)]
          have c1 : 65 ≤ c := by omega
          have c2 : ¬ c ≤ 90 := by omega
          go_enter Try.func40, Try.ntmps40
          go_wp2_with fail
          go_ret
          exact ⟨rfl, rfl⟩
      · rw [if_neg (by omega)]
        by_cases c1 : 65 ≤ c
        · by_cases c2 : c ≤ 90
          · rw [if_pos ⟨c1, c2⟩]
            go_enter Try.func40, Try.ntmps40
            go_wp2_with fail
            go_ret
            exact ⟨ret_int (by omega), rfl⟩
          · rw [if_neg (by omega)]
            go_enter Try.func40, Try.ntmps40
            go_wp2_with fail
            go_ret
            exact ⟨rfl, rfl⟩
        · rw [if_neg (by omega)]
          go_enter Try.func40, Try.ntmps40
          go_wp2_with fail
          go_ret
          exact ⟨rfl, rfl⟩
  · rw [if_neg (by omega), if_neg (by omega), if_neg (by omega)]
    have b1 : ¬ 97 ≤ c := by omega
    have c1 : ¬ 65 ≤ c := by omega
    go_enter Try.func40, Try.ntmps40
    go_wp2_with fail
    go_ret
    exact ⟨rfl, rfl⟩
theorem refSmall_any (n : Int) (K : Bool) (hK : fits n = K) (w : World) : Calls Try.prog 57 #[.int .i64 n] w fun e w' => e = .returned (.bool K) ∧ w = w' := by
  cases K
  · have HF := Lib.hid (fun w => refFits_no n w hK)
    clear hK
    go_enter Try.func57, Try.ntmps57
    go_wp2_with fail
    refine (HF.out _).mono ?_; rintro e w' ⟨rfl, rfl⟩
    go_wp2_with fail
    go_ret
    exact ⟨rfl, rfl⟩
  · have HF := Lib.hid (fun w => refFits_yes n w hK)
    clear hK
    go_enter Try.func57, Try.ntmps57
    go_wp2_with fail
    refine (HF.out _).mono ?_; rintro e w' ⟨rfl, rfl⟩
    go_wp2_with fail
    go_ret
    exact ⟨rfl, rfl⟩
/-- what whole answers: the number, if there is one -/
def WhPost (o : Option Int) (w : World) (e : Ending) (w' : World) : Prop :=
  ∃ n : Int, e = .returned (.tuple #[.int .i64 n, .bool o.isSome]) ∧ (o.isSome = true → o = some n) ∧ w = w'
def WhRel (l : List UInt8) (t i : Value) : Prop :=
  ∃ (k : Nat) (n : Int), k ≤ l.length ∧ 0 ≤ n ∧ n ≤ 4294967296 ∧ i = .int .i64 k ∧ t = .int .i64 n ∧ rdD 10 l 0 = rdD 10 (l.drop k) n
theorem plain_whole (l : List UInt8) : ((plOk l = true ∧ plHas l = false) ↔ rdOk 10 l = true) ∧ (plOk l = true → plHas l = false → plD l = l ∧ allDig l) := by
  have key : plOk l = true → plHas l = false → plD l = l ∧ allDig l ∧ l ≠ [] := by
    intro h1 h2
    have hD : plD l = l.take (nDg l) := by unfold plD; rw [h2, if_neg (by simp)]
    have hZ : plZ l = plR l := by unfold plZ; rw [h2, if_neg (by simp)]
    unfold plOk at h1
    rw [hZ, Bool.and_eq_true] at h1
    have hr : plR l = [] := by
      cases h : plR l with
      | nil => rfl
      | cons x t => rw [h] at h1; exact absurd h1.1 (by simp)
    have hl : l.take (nDg l) = l := by have := split_at l; rw [hr, List.append_nil] at this; exact this
    refine ⟨by rw [hD, hl], by rw [← hl]; exact take_dig l, ?_⟩
    intro e
    have h3 := h1.2
    rw [hD, hl, e] at h3; simp at h3
  refine ⟨⟨fun h => ?_, fun h => ?_⟩, fun h1 h2 => ⟨(key h1 h2).1, (key h1 h2).2.1⟩⟩
  · obtain ⟨_, h2, h3⟩ := key h.1 h.2
    exact rdOk10.2 ⟨h2, h3⟩
  · obtain ⟨h1, h2⟩ := rdOk10.1 h
    have hr := plR_all h1
    have hh : plHas l = false := by unfold plHas; rw [hr]; rfl
    have hD : plD l = l := by
      have : l.take (nDg l) = l := by have := split_at l; rw [hr, List.append_nil] at this; exact this
      unfold plD; rw [hh, if_neg (by simp)]; exact this
    have hZ : plZ l = [] := by unfold plZ; rw [hh, if_neg (by simp)]; exact hr
    refine ⟨?_, hh⟩
    unfold plOk; rw [hZ, hD]
    cases l with
    | nil => exact absurd rfl h2
    | cons x t => rfl
theorem who_none {l : List UInt8} (h : rdOk 10 (csL l) = false) : whoO l = none := by unfold whoO; rw [h]; rfl
theorem who_of {l : List UInt8} {n : Int} (h : rdOk 10 (csL l) = true) (h2 : rdV 10 (csL l) = n) : whoO l = if fits (sgn (csB l) n) = true then some (sgn (csB l) n) else none := by
  unfold whoO; rw [h, h2]; simp
theorem refWhole_any (s : ByteArray) (hs : s.size ≤ 64) (w : World) : Calls Try.prog 43 #[.string s] w (WhPost (whoO s.data.toList) w) := by
  have HS := Lib.hid (refPlain_any s hs w)
  obtain ⟨l, hl⟩ : ∃ l, csL s.data.toList = l := ⟨_, rfl⟩
  obtain ⟨b, hb⟩ : ∃ b, csB s.data.toList = b := ⟨_, rfl⟩
  have hll : l.length ≤ 64 := by rw [← hl]; have := csL_len s.data.toList; rw [← size_list] at this; omega
  have hw0 := who_none (l := s.data.toList)
  have hw1 := fun n => who_of (l := s.data.toList) (n := n)
  rw [hl] at hw0
  rw [hl, hb] at hw1
  obtain ⟨o, ho⟩ : ∃ o, whoO s.data.toList = o := ⟨_, rfl⟩
  rw [ho] at hw0 hw1 ⊢
  rw [hl, hb] at HS
  clear hl hb ho
  obtain ⟨p1, p2⟩ := plain_whole l
  cases hok : plOk l
  · have hn : rdOk 10 l = false := by
      cases hr : rdOk 10 l with
      | false => rfl
      | true => have := (p1.2 hr).1; rw [hok] at this; cases this
    obtain rfl := hw0 hn
    have HK := Lib.hid hok
    clear p1 p2 hok hn hw0 hw1
    go_enter Try.func43, Try.ntmps43
    go_wp2_with fail
    refine HS.out.mono ?_
    rintro e w' ⟨d, rfl, hd, rfl⟩
    rw [HK.out]
    clear hd
    go_wp2_with fail
    go_ret2
    exact ⟨0, rfl, by simp, rfl⟩
  · cases hha : plHas l
    · obtain ⟨q1, q2⟩ := p2 hok hha
      have hr : rdOk 10 l = true := p1.1 ⟨hok, hha⟩
      have HW := Lib.hid (fun n => hw1 n hr)
      have HK := Lib.hid hok
      have HH := Lib.hid hha
      have HQ := Lib.hid q1
      have HA := Lib.hid q2
      clear p1 p2 hok hha q1 q2 hr hw0 hw1
      go_enter Try.func43, Try.ntmps43
      go_wp2_with fail
      refine HS.out.mono ?_
      rintro e w' ⟨d, rfl, hd, rfl⟩
      rw [HQ.out] at hd
      rw [HK.out, HH.out]
      have hdl : d.size = l.length := by rw [size_list, hd]
      have HD := Lib.hid hd
      clear hd
      go_wp2_with fail
      go_loop [9, 10] (WhRel l) (fun _ i => d.size - (intOf i).toNat)
      case atStart => exact ⟨0, 0, by omega, by omega, by omega, rfl, rfl, rfl⟩
      case round =>
        obtain ⟨k, n, hk, hn0, hn1, rfl, rfl, hr⟩ := hrel
        by_cases hlt : k < d.size
        · have hdg : isDig d[k] := HA.out _ (by rw [← HD.out]; exact List.mem_of_getElem? (getElem_of d k hlt))
          have hdu : digU (d[k].toNat : Int) = (d[k].toNat : Int) - 48 := by unfold isDig at hdg; unfold digU; rw [if_pos (by omega)]
          unfold isDig at hdg
          obtain ⟨g0, g1⟩ := hdg
          rw [← HD.out, drop_byte d k hlt, rdD_cons, if_pos (by omega), hdu, HD.out] at hr
          have hi : decide ((k : Int) < (d.size : Int)) = true := decide_eq_true (by omega)
          by_cases hbig : n * 10 + ((d[k].toNat : Int) - 48) ≤ 4294967296
          · have e : min (n * 10 + ((d[k].toNat : Int) - 48)) 4294967296 = n * 10 + ((d[k].toNat : Int) - 48) := by omega
            rw [e] at hr
            have HR := Lib.hid hr
            clear hr e hdu
            go_wp2_with fail
            go_round
            case rel => exact ⟨k + 1, _, by omega, by omega, by omega, by go_num, rfl, HR.out⟩
            case measure => simp [intOf]; omega
          · have e : min (n * 10 + ((d[k].toNat : Int) - 48)) 4294967296 = 4294967296 := by omega
            rw [e] at hr
            have hv : rdV 10 l = 4294967296 := by
              have hsome : (rdD 10 (l.drop (k + 1)) 4294967296).isSome = true := rd10.2 (fun x hx => HA.out x (List.mem_of_mem_drop hx))
              obtain ⟨m, hm⟩ := Option.isSome_iff_exists.1 hsome
              have := rdD_cap (by omega) hm
              unfold rdV; rw [hr, hm, this]; rfl
            have hno : o = none := by
              rw [HW.out _ hv]
              have : fits (sgn b 4294967296) = false := by rw [fits_no]; unfold sgn; split <;> omega
              rw [this]; rfl
            subst hno
            clear hr e hdu hv
            go_wp2_with fail
            go_ret2
            exact ⟨0, rfl, by simp, rfl⟩
        · have hi : decide ((k : Int) < (d.size : Int)) = false := decide_eq_false (by omega)
          rw [List.drop_of_length_le (by omega)] at hr
          have hv : rdV 10 l = n := by unfold rdV; rw [hr]; rfl
          have ho := HW.out _ hv
          obtain ⟨K, hK⟩ : ∃ K, fits (sgn b n) = K := ⟨_, rfl⟩
          rw [hK] at ho
          have HKK := Lib.hid hK
          have HO : Hid (o.isSome = K ∧ (o.isSome = true → o = some (sgn b n))) := by
            unfold Hid; rw [ho]; cases K <;> simp
          clear hr hv ho hK
          cases b
          · go_wp2_with fail
            refine (refSmall_any n K HKK.out _).mono ?_; rintro e w' ⟨rfl, rfl⟩
            go_wp2_with fail
            go_ret2
            exact ⟨n, by rw [HO.out.1]; rfl, HO.out.2, rfl⟩
          · go_wp2_with fail
            refine (refSmall_any (-n) K HKK.out _).mono ?_; rintro e w' ⟨rfl, rfl⟩
            go_wp2_with fail
            go_ret2
            exact ⟨-n, by rw [HO.out.1]; rfl, HO.out.2, rfl⟩
    · have hn : rdOk 10 l = false := by
        cases hr : rdOk 10 l with
        | false => rfl
        | true => have := (p1.2 hr).2; rw [hha] at this; cases this
      obtain rfl := hw0 hn
      have HK := Lib.hid hok
      have HH := Lib.hid hha
      clear p1 p2 hok hha hn hw0 hw1
      go_enter Try.func43, Try.ntmps43
      go_wp2_with fail
      refine HS.out.mono ?_
      rintro e w' ⟨d, rfl, hd, rfl⟩
      rw [HK.out, HH.out]
      clear hd
      go_wp2_with fail
      go_ret2
      exact ⟨0, rfl, by simp, rfl⟩
end Go.Proofs.Ytaebpjcigajolaa
