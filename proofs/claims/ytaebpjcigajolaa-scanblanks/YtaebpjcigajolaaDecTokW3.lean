/-
  The document's Token at a text that is no radix number. (made by gentok3.py)
-/
import Derived.Test.YtaebpjcigajolaaDecTokW1
import Derived.Deep.DeepCutAuto
namespace Go.Proofs.Ytaebpjcigajolaa
open Go.RowKit
open Fx Dc
namespace Dc
theorem realT_cases (a : List UInt8) (q : Int) (L : List UInt8) (b : Bool) (hL : csL a = L) (hb : csB a = b) :
    (plOk L = false ∧ realT a q = (0, 0, false, 0)) ∨
    (plOk L = true ∧ allDig (plD L) ∧ scOk (digits (plD L)) ((nDg L : Int) + q) = false ∧ realT a q = (0, 0, true, 9)) ∨
    ∃ R : Nat, plOk L = true ∧ allDig (plD L) ∧ scOk (digits (plD L)) ((nDg L : Int) + q) = true ∧ scN (digits (plD L)) ((nDg L : Int) + q) = R ∧ R ≤ 4294967296 * 65536 + 65536 ∧
      realT a q = if fits (sgn b (R : Int)) = true then (2, sgn b (R : Int), true, 0) else (0, 0, true, 9) := by
  obtain ⟨p1, p2⟩ := plain_man L
  cases hok : plOk L
  · left; refine ⟨rfl, ?_⟩
    unfold realT; rw [hL, ← p1, hok]; rfl
  · right
    obtain ⟨hD, hA⟩ := p2 hok
    have hmok : manOk L = true := by rw [← p1]; exact hok
    have hall : allDig (man L) := by
      unfold manOk at hmok
      cases h : allD (man L) with
      | true => exact (allD_iff _).1 h
      | false => rw [h] at hmok; cases hmok
    have hmn : manN L q = ((rndD (digits (plD L)) ((nDg L : Int) + q) : Nat) : Int) := by unfold manN; rw [← hA, hD]
    obtain ⟨s1, s2⟩ := sc_rnd (digits (plD L)) (by rw [hD]; exact digits_digs hall) ((nDg L : Int) + q)
    have hrb := rndD_bd (xs := digits (plD L)) (by rw [hD]; exact digits_digs hall) ((nDg L : Int) + q)
    have hT : realT a q = if fits (sgn b (manN L q)) = true then (2, sgn b (manN L q), true, 0) else (0, 0, true, 9) := by unfold realT; rw [hL, hb, hmok, if_pos rfl]
    cases hsc : scOk (digits (plD L)) ((nDg L : Int) + q)
    · left
      refine ⟨rfl, by rw [hD]; exact hall, rfl, ?_⟩
      have hfar := s2 hsc
      rw [hT, hmn, sgn_far b _ (by omega)]; rfl
    · right
      refine ⟨_, rfl, by rw [hD]; exact hall, rfl, s1 hsc, hrb, ?_⟩
      rw [hT, hmn]
theorem plD_len (l : List UInt8) : (plD l).length ≤ l.length := by
  have h := congrArg List.length (split_at l)
  rw [List.length_append, List.length_take] at h
  unfold plD plY
  split
  · rw [List.length_append, List.length_take, List.length_take, List.length_drop]; omega
  · rw [List.length_take]; omega
theorem nDg_all {l : List UInt8} : nDg l = l.length ↔ allDig l := by
  constructor
  · intro h
    have h1 := take_dig l
    rw [h, List.take_length] at h1; exact h1
  · intro h
    have := plR_all h
    unfold plR at this
    have h2 := congrArg List.length this
    rw [List.length_drop, List.length_nil] at h2
    have := nDg_le l; omega
def AtRel (n m : Nat) (t i : Value) : Prop := ∃ k : Nat, k ≤ m ∧ i = .int .i64 k ∧ t = .int .i64 (n : Int)
def PwrRel (l : List UInt8) (t i : Value) : Prop := ∃ (k n : Nat), k ≤ l.length ∧ n < 10 ^ k ∧ i = .int .i64 k ∧ t = .int .i64 (n : Int) ∧ rdD 10 l 0 = rdD 10 (l.drop k) (n : Int)
theorem pow_small {k : Nat} (h : k ≤ 3) : 10 ^ k ≤ 1000 := by
  have := Nat.pow_le_pow_right (n := 10) (by omega) h
  omega
theorem dig_of {c : UInt8} (h : isDig c) : digU (c.toNat : Int) = (c.toNat : Int) - 48 := by unfold isDig at h; unfold digU; rw [if_pos (by omega)]
end Dc
set_option maxRecDepth 100000 in
theorem refToken_long (s : ByteArray) (hs : 64 < s.size) (hs2 : s.size ≤ 3000) (w : World) : Calls Try.prog 26 #[.string s] w (TokPost (0, 0, false, 0) w) := by
  go_enter Try.func26, Try.ntmps26
  go_wp2_with fail
  exact bodyPost_ret (v := .tuple #[.agg #[.int .i64 0, .int .i64 0, .string ⟨#[]⟩], .bool false, .int .i64 0]) (by simp [results, Try.results26, go_sem]) rfl ⟨rfl, (Below.refl _ _).alloc (Nat.le_refl _) _⟩
set_option maxRecDepth 100000 in
set_option maxHeartbeats 1000000 in
theorem refToken_whole (s : ByteArray) (hs : s.size ≤ 64) (hc : ¬ rxC s.data.toList) (m : Int) (ho : whoO s.data.toList = some m) (w : World) : Calls Try.prog 26 #[.string s] w (TokPost (1, m, true, 0) w) := by
  have hG := fun w => refDigits_any s (by omega) w
  have hsl : s.data.toList.length = s.size := (size_list s).symm
  have hnl := nDg_le s.data.toList
  obtain ⟨a, ha⟩ : ∃ a, nDg s.data.toList = a := ⟨_, rfl⟩
  have hc2 : ∀ (h : a < s.size), 1 ≤ a → a ≤ 2 → a + 1 < s.size → ((s[a].toNat : Int) == 35) = false := by
    intro h h1 h2 h3
    rw [beq_eq_false_iff_ne]
    intro e
    apply hc
    unfold rxC
    rw [ha]
    refine ⟨h1, h2, by omega, ?_⟩
    rw [getElem_of s a h]
    congr 1
    apply UInt8.toNat_inj.1
    show s[a].toNat = 35
    omega
  have HW := Lib.hid (fun w => refWhole_any s hs w)
  rw [ho] at HW
  rw [ha] at hG hnl
  have HG := Lib.hid hG
  have HC2 := Lib.hid hc2
  have h64 : decide (64 < (s.size : Int)) = false := decide_eq_false (by omega)
  clear hG hc2 ha hc
  go_enter Try.func26, Try.ntmps26
  go_wp2_with fail
  refine (HG.out _).mono ?_; rintro e w' ⟨rfl, rfl⟩
  go_upto_region 4 with fail
  go_cut [51] (fun s51 wx => s51 = .bool false ∧ wx = w.alloc (Obj.cells #[.int .i64 0, .int .i64 0, .string ⟨#[]⟩] 25))
  case first =>
    by_cases a1 : 1 ≤ a
    · have f1 : decide (1 ≤ (a : Int)) = true := decide_eq_true (by omega)
      by_cases a2 : a ≤ 2
      · have f2 : decide ((a : Int) ≤ 2) = true := decide_eq_true (by omega)
        by_cases a3 : a + 1 < s.size
        · have f3 : decide ((a : Int) + 1 < (s.size : Int)) = true := decide_eq_true (by omega)
          have hlt : a < s.size := by omega
          have f4 := HC2.out hlt a1 a2 a3
          go_wp2_with fail
          go_meet
          exact ⟨rfl, rfl⟩
        · have f3 : decide ((a : Int) + 1 < (s.size : Int)) = false := decide_eq_false (by omega)
          go_wp2_with fail
          go_meet
          exact ⟨rfl, rfl⟩
      · have f2 : decide ((a : Int) ≤ 2) = false := decide_eq_false (by omega)
        go_wp2_with fail
        go_meet
        exact ⟨rfl, rfl⟩
    · have f1 : decide (1 ≤ (a : Int)) = false := decide_eq_false (by omega)
      go_wp2_with fail
      go_meet
      exact ⟨rfl, rfl⟩
  case rest =>
    obtain ⟨rfl, rfl⟩ := hcut
    go_wp2_with fail
    refine (HW.out _).mono ?_
    rintro e w' ⟨n, rfl, hn, rfl⟩
    obtain rfl : m = n := Option.some.inj (hn rfl)
    clear hn
    go_wp2_with fail
    exact bodyPost_ret (v := .tuple #[.agg #[.int .i64 1, .int .i64 m, .string ⟨#[]⟩], .bool true, .int .i64 0]) (by simp [results, Try.results26, go_sem]) rfl ⟨rfl, (Below.refl _ _).alloc (Nat.le_refl _) _⟩
set_option maxRecDepth 100000 in
set_option maxHeartbeats 1000000 in
theorem refToken_noE (s : ByteArray) (hs : s.size ≤ 64) (hc : ¬ rxC s.data.toList) (ho : whoO s.data.toList = none) (hE : noE s.data.toList) (r : Int × Int × Bool × Int) (hr : r = realT s.data.toList 0) (w : World) : Calls Try.prog 26 #[.string s] w (TokPost r w) := by
  have HT := Lib.hid hr
  have hP := fun w => refPlain_any s hs w
  obtain ⟨L, hL⟩ : ∃ L, csL s.data.toList = L := ⟨_, rfl⟩
  obtain ⟨b, hb⟩ : ∃ b, csB s.data.toList = b := ⟨_, rfl⟩
  have hcs := realT_cases s.data.toList 0 L b hL hb
  have hpd := plD_len L
  have hll : L.length ≤ 64 := by rw [← hL]; have := csL_len s.data.toList; rw [← size_list] at this; omega
  have hnd := nDg_le L
  rw [hL, hb] at hP
  rw [Int.add_zero] at hcs
  unfold PlPost at hP
  obtain ⟨nd, hnd2⟩ : ∃ nd, nDg L = nd := ⟨_, rfl⟩
  rw [hnd2] at hP hcs hnd
  have HP := Lib.hid hP
  have HC := Lib.hid hcs
  have HDL : Hid ((plD L).length ≤ 64) := by unfold Hid; omega
  have HE := Lib.hid hE
  clear hr hP hL hb hcs hpd hnd2 hE
  have hG := fun w => refDigits_any s (by omega) w
  have hsl : s.data.toList.length = s.size := (size_list s).symm
  have hnl := nDg_le s.data.toList
  obtain ⟨a, ha⟩ : ∃ a, nDg s.data.toList = a := ⟨_, rfl⟩
  have hc2 : ∀ (h : a < s.size), 1 ≤ a → a ≤ 2 → a + 1 < s.size → ((s[a].toNat : Int) == 35) = false := by
    intro h h1 h2 h3
    rw [beq_eq_false_iff_ne]
    intro e
    apply hc
    unfold rxC
    rw [ha]
    refine ⟨h1, h2, by omega, ?_⟩
    rw [getElem_of s a h]
    congr 1
    apply UInt8.toNat_inj.1
    show s[a].toNat = 35
    omega
  have HW := Lib.hid (fun w => refWhole_any s hs w)
  rw [ho] at HW
  rw [ha] at hG hnl
  have HG := Lib.hid hG
  have HC2 := Lib.hid hc2
  have h64 : decide (64 < (s.size : Int)) = false := decide_eq_false (by omega)
  clear hG hc2 ha hc
  go_enter Try.func26, Try.ntmps26
  go_wp2_with fail
  refine (HG.out _).mono ?_; rintro e w' ⟨rfl, rfl⟩
  go_upto_region 4 with fail
  go_cut [51] (fun s51 wx => s51 = .bool false ∧ wx = w.alloc (Obj.cells #[.int .i64 0, .int .i64 0, .string ⟨#[]⟩] 25))
  case first =>
    by_cases a1 : 1 ≤ a
    · have f1 : decide (1 ≤ (a : Int)) = true := decide_eq_true (by omega)
      by_cases a2 : a ≤ 2
      · have f2 : decide ((a : Int) ≤ 2) = true := decide_eq_true (by omega)
        by_cases a3 : a + 1 < s.size
        · have f3 : decide ((a : Int) + 1 < (s.size : Int)) = true := decide_eq_true (by omega)
          have hlt : a < s.size := by omega
          have f4 := HC2.out hlt a1 a2 a3
          go_wp2_with fail
          go_meet
          exact ⟨rfl, rfl⟩
        · have f3 : decide ((a : Int) + 1 < (s.size : Int)) = false := decide_eq_false (by omega)
          go_wp2_with fail
          go_meet
          exact ⟨rfl, rfl⟩
      · have f2 : decide ((a : Int) ≤ 2) = false := decide_eq_false (by omega)
        go_wp2_with fail
        go_meet
        exact ⟨rfl, rfl⟩
    · have f1 : decide (1 ≤ (a : Int)) = false := decide_eq_false (by omega)
      go_wp2_with fail
      go_meet
      exact ⟨rfl, rfl⟩
  case rest =>
    obtain ⟨rfl, rfl⟩ := hcut
    go_wp2_with fail
    refine (HW.out _).mono ?_
    rintro e w' ⟨n, rfl, hn, rfl⟩
    clear hn
    go_wp2_with fail
    go_loop [14, 15] (AtRel s.size s.size) (fun _ i => s.size - (intOf i).toNat)
    case atStart => exact ⟨0, by omega, rfl, rfl⟩
    case round =>
      obtain ⟨k, hk, rfl, rfl⟩ := hrel
      by_cases hlt : k < s.size
      · have hi : decide ((k : Int) < (s.size : Int)) = true := decide_eq_true (by omega)
        obtain ⟨e1, e2⟩ := HE.out s[k] (List.mem_of_getElem? (getElem_of s k hlt))
        have f1 : ((s[k].toNat : Int) == 101) = false := by rw [beq_eq_false_iff_ne]; intro e; apply e1; apply UInt8.toNat_inj.1; show s[k].toNat = 101; omega
        have f2 : ((s[k].toNat : Int) == 69) = false := by rw [beq_eq_false_iff_ne]; intro e; apply e2; apply UInt8.toNat_inj.1; show s[k].toNat = 69; omega
        clear e1 e2
        go_wp2_with fail
        go_round
        case rel => exact ⟨k + 1, by omega, by go_num, rfl⟩
        case measure => simp [intOf]; omega
      · have hi : decide ((k : Int) < (s.size : Int)) = false := decide_eq_false (by omega)
        have hi2 : decide ((s.size : Int) < (s.size : Int)) = false := decide_eq_false (by omega)
        have hex : s.extract 0 s.size = s := by simp
        go_wp2_with fail
        refine (HP.out _).mono ?_
        rintro e w' ⟨d, rfl, hd, rfl⟩
        obtain ⟨p, hp⟩ : ∃ p : Int, (nd : Int) = p := ⟨_, rfl⟩
        rcases HC.out with ⟨k1, k2⟩ | ⟨k1, k2, k3, k4⟩ | ⟨R, k1, k2, k3, k4, k5, k6⟩
        · rw [k1]
          have HX := Lib.hid (HT.out.trans k2)
          clear k1 k2 hd HC
          go_wp2_with fail
          exact bodyPost_ret (v := .tuple #[.agg #[.int .i64 0, .int .i64 0, .string ⟨#[]⟩], .bool false, .int .i64 0]) (by simp [results, Try.results26, go_sem]) rfl ⟨by rw [HX.out]; rfl, (Below.refl _ _).alloc (Nat.le_refl _) _⟩
        · rw [k1]
          have HX := Lib.hid (HT.out.trans k4)
          have hds : d.size ≤ 64 := len_le hd HDL.out
          have hSc := fun w => scaled_any d p (by rw [hd]; exact k2) (by omega) (by omega) (by omega) w
          rw [hd, show scOk (digits (plD L)) p = false by rw [← hp]; exact k3] at hSc
          obtain ⟨V, hV⟩ : ∃ V : Nat, scN (digits (plD L)) p = V := ⟨_, rfl⟩
          rw [hV] at hSc
          have HSc := Lib.hid hSc
          clear k1 k2 k3 k4 hd hSc hV HC
          go_wp2_with fail
          refine (HSc.out (tok0 w)).mono ?_
          rintro e w1 ⟨rfl, hb1⟩
          obtain ⟨t0, t1, t2, tf⟩ := tok_cells hb1
          have HB := Lib.hid hb1
          clear hb1
          go_wp2_with fail
          obtain ⟨q0, q1, q2⟩ := tok_put t0 t1 t2 (.int .i64 0) (.int .i64 0) (.string ⟨#[]⟩)
          exact bodyPost_ret (results_tok3 Try.results26 _ _ w.heap.size _ _ _ rfl q0 q1 q2) rfl ⟨by rw [HX.out]; rfl, tok_back HB.out _ _ _⟩
        · rw [k1]
          have hds : d.size ≤ 64 := len_le hd HDL.out
          have hSc := fun w => scaled_any d p (by rw [hd]; exact k2) (by omega) (by omega) (by omega) w
          rw [hd, show scOk (digits (plD L)) p = true by rw [← hp]; exact k3, show scN (digits (plD L)) p = R by rw [← hp]; exact k4] at hSc
          have HSc := Lib.hid hSc
          have hX := HT.out.trans k6
          have hSg := fun w => refSigned_any (R : Int) b w (by omega) (by omega)
          obtain ⟨V, hV⟩ : ∃ V : Int, sgn b (R : Int) = V := ⟨_, rfl⟩
          rw [hV] at hSg hX
          clear k1 k2 k3 k4 k6 hd hSc HC hV
          cases hK : fits V
          · rw [hK] at hSg hX
            simp only [Bool.false_eq_true, if_false] at hSg hX
            have HSg := Lib.hid hSg
            have HX := Lib.hid hX
            clear hSg hX hK
            go_wp2_with fail
            refine (HSc.out (tok0 w)).mono ?_
            rintro e w1 ⟨rfl, hb1⟩
            obtain ⟨t0, t1, t2, tf⟩ := tok_cells hb1
            have HB := Lib.hid hb1
            clear hb1
            go_wp2_with fail
            refine (HSg.out _).mono ?_
            rintro e w' ⟨rfl, rfl⟩
            go_wp2_with fail
            obtain ⟨q0, q1, q2⟩ := tok_put t0 t1 t2 (.int .i64 0) (.int .i64 0) (.string ⟨#[]⟩)
            exact bodyPost_ret (results_tok3 Try.results26 _ _ w.heap.size _ _ _ rfl q0 q1 q2) rfl ⟨by rw [HX.out]; rfl, tok_back HB.out _ _ _⟩
          · rw [hK] at hSg hX
            simp only [if_true] at hSg hX
            have HSg := Lib.hid hSg
            have HX := Lib.hid hX
            clear hSg hX hK
            go_wp2_with fail
            refine (HSc.out (tok0 w)).mono ?_
            rintro e w1 ⟨rfl, hb1⟩
            obtain ⟨t0, t1, t2, tf⟩ := tok_cells hb1
            have HB := Lib.hid hb1
            clear hb1
            go_wp2_with fail
            refine (HSg.out _).mono ?_
            rintro e w' ⟨rfl, rfl⟩
            go_wp2_with fail
            obtain ⟨q0, q1, q2⟩ := tok_put t0 t1 t2 (.int .i64 2) (.int .i64 V) (.string ⟨#[]⟩)
            exact bodyPost_ret (results_tok3 Try.results26 _ _ w.heap.size _ _ _ rfl q0 q1 q2) rfl ⟨by rw [HX.out]; rfl, tok_back HB.out _ _ _⟩
end Go.Proofs.Ytaebpjcigajolaa
