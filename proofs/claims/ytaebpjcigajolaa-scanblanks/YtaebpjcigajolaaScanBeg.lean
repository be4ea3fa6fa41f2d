/-
  The token that begins at a place, by a contract.
-/
import Derived.Test.YtaebpjcigajolaaScanWord
namespace Go.Proofs.Ytaebpjcigajolaa
open Go.RowKit
open Sc
theorem conv_one (W : World) (c : UInt8) : (convert 22 9 (.slice (some ⟨W.heap.size, 0, none⟩) 1 1)).run Try.prog (W.alloc (.cells #[.int .u8 c.toNat] 5)) = .ok (.string ⟨#[c]⟩) (W.alloc (.cells #[.int .u8 c.toNat] 5)) :=
  run_convert_bytes_back (W.alloc (.cells #[.int .u8 c.toNat] 5)) 22 9 5 ⟨W.heap.size, 0, none⟩ 1 [c] Try.underlying22 Try.underlying5 Try.underlying9 (fun j hj => by
    have h0 : j = 0 := by simpa using hj
    subst h0
    exact src_oneS W (.int .u8 c.toNat) 5 0 _ rfl)
theorem drop_cons_of {l : List UInt8} {q : Nat} {c : UInt8} (h : l[q]? = some c) : l.drop q = c :: l.drop (q + 1) := by
  obtain ⟨hk, rfl⟩ := List.getElem?_eq_some_iff.1 h
  exact List.drop_eq_getElem_cons hk
/-- where a byte stands twice -/
theorem takeIf_two {w : World} {N R cap p : Nat} {ba : Option Addr} {l tx : List UInt8} (h : St w N R ba cap l p tx) (hl : l.length ≤ 65535) (k : UInt8) (z : Int) (hz : z = k.toNat) (o : Out) :
    ∃ b q, (b = true → twice k (l.drop p) o = .tok 3 0 [k, k] (l.drop q)) ∧ (b = false → twice k (l.drop p) o = o ∧ q = p) ∧ Calls Try.prog 35 #[.pointer (some ⟨R, 0, none⟩), .int .u8 z] w (Went N R ba cap l q tx (.bool b) w) := by
  subst hz
  cases hs : l.drop p with
  | nil => exact ⟨false, p, (fun e => by cases e), (fun _ => ⟨rfl, rfl⟩), takeIf_end h (drop_end hs h.le) k.toNat⟩
  | cons c s =>
    obtain ⟨hc, hs1, hlt⟩ := drop_at hs
    have := takeIf_at h (by omega) hc k.toNat
    by_cases hk : c = k
    · subst hk
      rw [if_pos rfl, decide_eq_true rfl] at this
      exact ⟨true, p + 1, (fun _ => by rw [hs1, twice, if_pos rfl]), (fun e => by cases e), this⟩
    · have e47 : ¬ c.toNat = k.toNat := fun e => hk (UInt8.toNat_inj.1 e)
      rw [if_neg e47, decide_eq_false e47] at this
      exact ⟨false, p, (fun e => by cases e), (fun _ => ⟨by rw [twice, if_neg hk], rfl⟩), this⟩
theorem OutO.later {N R cap : Nat} {ba : Option Addr} {l : List UInt8} {o : Out} {w w1 w2 : World} {e : Ending} (h : OutO N R ba cap l o w1 e w2) (hf : Fr R w w1) : OutO N R ba cap l o w e w2 := by
  cases o with
  | err x => exact ⟨h.1, hf.trans h.2⟩
  | tok k n t r => obtain ⟨q, tx, hq, he, hst, hb⟩ := h; exact ⟨q, tx, hq, he, hst, hf.trans hb⟩
theorem strO_out {N R cap : Nat} {ba : Option Addr} {l : List UInt8} {o : Option (List UInt8 × List UInt8)} {w w2 : World} {e : Ending} (h : StrO N R ba cap l o w e w2) : OutO N R ba cap l (str o) w e w2 := by
  cases o with
  | none => exact h
  | some x => exact h
set_option maxHeartbeats 1600000 in
theorem token_at {w : World} {N R cap p : Nat} {ba : Option Addr} {l : List UInt8} (h : St w N R ba cap l p []) (hl : l.length ≤ 65535) {tk : List UInt8 → Int × Int × Bool × Int}
    (htk : ∀ c r, skp false (l.drop p) = c :: r → regular c = true → TkOk R w tk) :
    Calls Try.prog 19 #[.pointer (some ⟨R, 0, none⟩)] w (OutO N R ba cap l (nxt tk (l.drop p)) w) := by
  have hRw := h.lt
  have HC := Lib.hid (skip_at (h.alloc (tokB 0 0 ⟨#[]⟩)) hl)
  have HTk := Lib.hid htk
  clear h htk
  go_enter Try.func19, Try.ntmps19
  go_wp2_with fail
  refine HC.out.mono ?_
  rintro e w1 ⟨q, hq, rfl, hst, hb⟩
  have HQ := Lib.hid hst
  have HB := Lib.hid (((Fr.refl _ _).alloc (tokB 0 0 ⟨#[]⟩)).trans hb)
  have HT1 := Lib.hid (hb.tokB (T := w.heap.size) (by omega) (tok_new _ _ _ _))
  have HA := Lib.hid (atEnd_at hst)
  have hqle := hst.le
  have hnx : nxt tk (l.drop p) = beg tk (l.drop q) := by unfold nxt; rw [hq]
  have HNX := Lib.hid hnx
  clear hb hnx
  cases hs : l.drop q with
  | nil =>
    rw [decide_eq_true (drop_end hs hst.le)] at HA
    rw [hs] at HNX
    have HE := Lib.hid hs
    clear hs hst hq
    go_wp2_with fail
    refine HA.out.mono ?_; rintro e w2 ⟨rfl, k, rfl⟩
    have HT2 := Lib.hid (((Fr.refl R w1).drewN k).tokB (by omega) HT1.out)
    obtain ⟨t0, t1, t2, g0, g1, g2⟩ := tok_c HT2.out
    go_wp2_with fail
    exact tok_end Try.results19 HT2.out rfl (outO_tok HNX.out HE.out ⟨rfl, (HQ.out.drewN k).tok HT2.out (by omega) _ _ _, (HB.out.drewN k).tok (Nat.le_refl _) _ _ _⟩)
  | cons c r =>
    obtain ⟨hc, hs1, hlt⟩ := drop_at hs
    rw [decide_eq_false (by omega)] at HA
    have HP := Lib.hid (fun W => isRegular_at c W)
    unfold Says at HP
    have HCc := Lib.hid hc
    have HS1 := Lib.hid hs1
    rw [hs] at HNX
    have HSK := Lib.hid (show skp false (l.drop p) = c :: r by rw [← hq, hs])
    go_wp2_with fail
    refine HA.out.mono ?_; rintro e w2 ⟨rfl, k, hw2⟩
    have hst2 : St w2 N R ba cap l q [] := by rw [hw2]; exact HQ.out.drewN k
    have HQ2 := Lib.hid hst2
    have HB2 : Hid (Fr R w w2) := by rw [hw2]; exact HB.out.drewN k
    have HT2 : Hid (w2.heap[w.heap.size]? = some (tokB 0 0 ⟨#[]⟩)) := by rw [hw2]; exact ((Fr.refl R w1).drewN k).tokB (by omega) HT1.out
    obtain ⟨b, off, hba, hbN, hbR, hcell⟩ := hst2.byte hc
    have c0 := hst2.c0
    have c1 := hst2.c1
    rw [hba] at c0
    clear hs hs1 hst hq hc hba hw2 hst2 HA HT1 HQ HB
    go_wp2_with fail
    cases hr : regular c with
    | true =>
      rw [hr] at HP
      have HN := Lib.hid (show nxt tk (l.drop p) = wrd tk (l.drop q) by rw [HNX.out, beg, if_pos hr, ← HS1.out, ← drop_cons_of HCc.out])
      have HK := Lib.hid (HTk.out c r HSK.out hr)
      clear hr
      go_quiet (first | (go_at_call 31; exact Calls.quiet_of_same (HP.out _)))
      go_wp2_with fail
      refine (word_at (HQ2.out.drewN _) hl (HK.out.later (HB2.out.drewN _))).mono ?_
      intro e w3 ho
      have HBx := Lib.hid (HB2.out.drewN nq)
      have HTx := Lib.hid (((Fr.refl R w2).drewN nq).tokB (by omega) HT2.out)
      obtain ⟨o, hoe⟩ : ∃ o, wrd tk (l.drop q) = o := ⟨_, rfl⟩
      rw [hoe] at ho HN
      clear hoe
      cases o with
      | err x =>
        obtain ⟨rfl, hb3⟩ := ho
        have HB3 := Lib.hid (HBx.out.trans hb3)
        clear hb3
        unfold gaveUp
        go_wp2_with fail
        exact ⟨rfl, outO_err HN.out ⟨rfl, HB3.out⟩⟩
      | tok k3 n3 t3 r3 =>
        obtain ⟨q3, tx3, hq3, rfl, hst3, hb3⟩ := ho
        have hT3 := hb3.tokB (by omega) HTx.out
        obtain ⟨t0, t1, t2, g0, g1, g2⟩ := tok_c hT3
        have HT3 := Lib.hid hT3
        have HQ3 := Lib.hid hst3
        have HQQ := Lib.hid hq3
        have HB3 := Lib.hid (HBx.out.trans hb3)
        clear hb3 hT3 hst3 hq3
        unfold tkV
        go_wp2_with fail
        exact tok_end Try.results19 HT3.out rfl (outO_tok HN.out HQQ.out ⟨rfl, HQ3.out.tok HT3.out (by omega) _ _ _, HB3.out.tok (Nat.le_refl _) _ _ _⟩)
    | false =>
      rw [hr] at HP
      have hbeg : beg tk (c :: r) = if c = 40 then str (rnd 1 r) else if c = 60 then twice 60 r (str (hx none r)) else if c = 62 then twice 62 r (.err 14) else if c = 123 then .tok 7 0 [] r else if c = 125 then .tok 8 0 [] r else if c = 91 then .tok 3 0 [91] r else if c = 93 then .tok 3 0 [93] r else if c = 47 then sla r else .err 14 := by
        rw [beg, if_neg (by simp [hr])]
      rw [hbeg] at HNX
      clear hr hbeg
      go_quiet (first | (go_at_call 31; exact Calls.quiet_of_same (HP.out _)))
      by_cases h40 : c = 40
      · subst h40
        have HN := Lib.hid (show nxt tk (l.drop p) = str (rnd 1 (l.drop (q + 1))) by rw [HNX.out, if_pos rfl, HS1.out])
        go_wp2_with fail
        refine (take_yes (HQ2.out.drewN nq) (by omega) HCc.out).mono ?_; rintro e w4 ⟨rfl, hst4, hb4⟩
        have HQ4 := Lib.hid hst4
        have HBx := Lib.hid ((HB2.out.drewN nq).trans hb4)
        have HTx := Lib.hid ((((Fr.refl R w2).drewN nq).trans hb4).tokB (by omega) HT2.out)
        clear hst4 hb4
        unfold bv
        go_wp2_with fail
        refine (plainString_at HQ4.out hl).mono ?_
        intro e w3 ho0
        have ho := strO_out ho0
        clear ho0
        obtain ⟨o, hoe⟩ : ∃ o, str (rnd 1 (l.drop (q + 1))) = o := ⟨_, rfl⟩
        rw [hoe] at ho HN
        clear hoe
        cases o with
        | err x =>
          obtain ⟨rfl, hb3⟩ := ho
          have HB3 := Lib.hid (HBx.out.trans hb3)
          clear hb3
          unfold gaveUp
          go_wp2_with fail
          exact ⟨rfl, outO_err HN.out ⟨rfl, HB3.out⟩⟩
        | tok k3 n3 t3 r3 =>
          obtain ⟨q3, tx3, hq3, rfl, hst3, hb3⟩ := ho
          have hT3 := hb3.tokB (by omega) HTx.out
          obtain ⟨t0, t1, t2, g0, g1, g2⟩ := tok_c hT3
          have HT3 := Lib.hid hT3
          have HQ3 := Lib.hid hst3
          have HQQ := Lib.hid hq3
          have HB3 := Lib.hid (HBx.out.trans hb3)
          clear hb3 hT3 hst3 hq3
          unfold tkV
          go_wp2_with fail
          exact tok_end Try.results19 HT3.out rfl (outO_tok HN.out HQQ.out ⟨rfl, HQ3.out.tok HT3.out (by omega) _ _ _, HB3.out.tok (Nat.le_refl _) _ _ _⟩)
      rw [if_neg h40] at HNX
      by_cases h60 : c = 60
      · subst h60
        have HN0 := Lib.hid (show nxt tk (l.drop p) = twice 60 (l.drop (q + 1)) (str (hx none (l.drop (q + 1)))) by rw [HNX.out, if_pos rfl, HS1.out])
        go_wp2_with fail
        refine (take_yes (HQ2.out.drewN nq) (by omega) HCc.out).mono ?_; rintro e w4 ⟨rfl, hst4, hb4⟩
        have HQ4 := Lib.hid hst4
        have HBx := Lib.hid ((HB2.out.drewN nq).trans hb4)
        have HTx := Lib.hid ((((Fr.refl R w2).drewN nq).trans hb4).tokB (by omega) HT2.out)
        clear hst4 hb4
        unfold bv
        obtain ⟨bb, q5, hy, hn, hcall⟩ := takeIf_two HQ4.out hl 60 60 rfl (str (hx none (l.drop (q + 1))))
        have HCall := Lib.hid hcall
        have HY := Lib.hid hy
        have HNo := Lib.hid hn
        clear hcall hy hn
        go_wp2_with fail
        refine HCall.out.mono ?_; rintro e w5 ⟨rfl, hst5, hb5⟩
        cases bb with
        | true =>
          have HN := Lib.hid (HN0.out.trans (HY.out rfl))
          have HQ5 := Lib.hid hst5
          have HB5 := Lib.hid (HBx.out.trans hb5)
          have HT5 := Lib.hid (hb5.tokB (by omega) HTx.out)
          obtain ⟨t0, t1, t2, g0, g1, g2⟩ := tok_c HT5.out
          clear hst5 hb5
          go_wp2_with fail
          exact tok_end Try.results19 HT5.out rfl (outO_tok HN.out rfl ⟨rfl, HQ5.out.tok HT5.out (by omega) _ _ _, HB5.out.tok (Nat.le_refl _) _ _ _⟩)
        | false =>
          obtain ⟨hn1, hn2⟩ := HNo.out rfl
          subst hn2
          have HN := Lib.hid (HN0.out.trans hn1)
          have HQ5 := Lib.hid hst5
          have HB5 := Lib.hid (HBx.out.trans hb5)
          have HT5 := Lib.hid (hb5.tokB (by omega) HTx.out)
          clear hst5 hb5 hn1 HBx HTx
          have HBx := HB5
          have HTx := HT5
          go_wp2_with fail
          refine (hexString_at HQ5.out hl).mono ?_
          intro e w3 ho0
          have ho := strO_out ho0
          clear ho0
          obtain ⟨o, hoe⟩ : ∃ o, str (hx none (l.drop (q + 1))) = o := ⟨_, rfl⟩
          rw [hoe] at ho HN
          clear hoe
          cases o with
          | err x =>
            obtain ⟨rfl, hb3⟩ := ho
            have HB3 := Lib.hid (HBx.out.trans hb3)
            clear hb3
            unfold gaveUp
            go_wp2_with fail
            exact ⟨rfl, outO_err HN.out ⟨rfl, HB3.out⟩⟩
          | tok k3 n3 t3 r3 =>
            obtain ⟨q3, tx3, hq3, rfl, hst3, hb3⟩ := ho
            have hT3 := hb3.tokB (by omega) HTx.out
            obtain ⟨t0, t1, t2, g0, g1, g2⟩ := tok_c hT3
            have HT3 := Lib.hid hT3
            have HQ3 := Lib.hid hst3
            have HQQ := Lib.hid hq3
            have HB3 := Lib.hid (HBx.out.trans hb3)
            clear hb3 hT3 hst3 hq3
            unfold tkV
            go_wp2_with fail
            exact tok_end Try.results19 HT3.out rfl (outO_tok HN.out HQQ.out ⟨rfl, HQ3.out.tok HT3.out (by omega) _ _ _, HB3.out.tok (Nat.le_refl _) _ _ _⟩)
      rw [if_neg h60] at HNX
      by_cases h62 : c = 62
      · subst h62
        have HN0 := Lib.hid (show nxt tk (l.drop p) = twice 62 (l.drop (q + 1)) (.err 14) by rw [HNX.out, if_pos rfl, HS1.out])
        go_wp2_with fail
        refine (take_yes (HQ2.out.drewN nq) (by omega) HCc.out).mono ?_; rintro e w4 ⟨rfl, hst4, hb4⟩
        have HQ4 := Lib.hid hst4
        have HBx := Lib.hid ((HB2.out.drewN nq).trans hb4)
        have HTx := Lib.hid ((((Fr.refl R w2).drewN nq).trans hb4).tokB (by omega) HT2.out)
        clear hst4 hb4
        unfold bv
        obtain ⟨bb, q5, hy, hn, hcall⟩ := takeIf_two HQ4.out hl 62 62 rfl (.err 14)
        have HCall := Lib.hid hcall
        have HY := Lib.hid hy
        have HNo := Lib.hid hn
        clear hcall hy hn
        go_wp2_with fail
        refine HCall.out.mono ?_; rintro e w5 ⟨rfl, hst5, hb5⟩
        cases bb with
        | true =>
          have HN := Lib.hid (HN0.out.trans (HY.out rfl))
          have HQ5 := Lib.hid hst5
          have HB5 := Lib.hid (HBx.out.trans hb5)
          have HT5 := Lib.hid (hb5.tokB (by omega) HTx.out)
          obtain ⟨t0, t1, t2, g0, g1, g2⟩ := tok_c HT5.out
          clear hst5 hb5
          go_wp2_with fail
          exact tok_end Try.results19 HT5.out rfl (outO_tok HN.out rfl ⟨rfl, HQ5.out.tok HT5.out (by omega) _ _ _, HB5.out.tok (Nat.le_refl _) _ _ _⟩)
        | false =>
          have HN := Lib.hid (HN0.out.trans (HNo.out rfl).1)
          have HB5 := Lib.hid (HBx.out.trans hb5)
          clear hst5 hb5
          go_wp2_with fail
          refine (giveUp_at _ _).mono ?_; rintro e w6 ⟨rfl, rfl⟩
          unfold gaveUp
          go_wp2_with fail
          exact ⟨rfl, outO_err HN.out ⟨rfl, HB5.out⟩⟩
      rw [if_neg h62] at HNX
      by_cases h123 : c = 123
      · subst h123
        have HN := Lib.hid (show nxt tk (l.drop p) = .tok 7 0 [] r by rw [HNX.out, if_pos rfl])
        go_wp2_with fail
        refine (take_yes (HQ2.out.drewN nq) (by omega) HCc.out).mono ?_; rintro e w4 ⟨rfl, hst4, hb4⟩
        have HQ4 := Lib.hid hst4
        have HBx := Lib.hid ((HB2.out.drewN nq).trans hb4)
        have HTx := Lib.hid ((((Fr.refl R w2).drewN nq).trans hb4).tokB (by omega) HT2.out)
        clear hst4 hb4
        unfold bv
        obtain ⟨t0, t1, t2, g0, g1, g2⟩ := tok_c HTx.out
        go_wp2_with fail
        exact tok_end Try.results19 HTx.out rfl (outO_tok HN.out HS1.out ⟨rfl, HQ4.out.tok HTx.out (by omega) _ _ _, HBx.out.tok (Nat.le_refl _) _ _ _⟩)
      rw [if_neg h123] at HNX
      by_cases h125 : c = 125
      · subst h125
        have HN := Lib.hid (show nxt tk (l.drop p) = .tok 8 0 [] r by rw [HNX.out, if_pos rfl])
        go_wp2_with fail
        refine (take_yes (HQ2.out.drewN nq) (by omega) HCc.out).mono ?_; rintro e w4 ⟨rfl, hst4, hb4⟩
        have HQ4 := Lib.hid hst4
        have HBx := Lib.hid ((HB2.out.drewN nq).trans hb4)
        have HTx := Lib.hid ((((Fr.refl R w2).drewN nq).trans hb4).tokB (by omega) HT2.out)
        clear hst4 hb4
        unfold bv
        obtain ⟨t0, t1, t2, g0, g1, g2⟩ := tok_c HTx.out
        go_wp2_with fail
        exact tok_end Try.results19 HTx.out rfl (outO_tok HN.out HS1.out ⟨rfl, HQ4.out.tok HTx.out (by omega) _ _ _, HBx.out.tok (Nat.le_refl _) _ _ _⟩)
      rw [if_neg h125] at HNX
      by_cases h91 : c = 91
      · subst h91
        have HN := Lib.hid (show nxt tk (l.drop p) = .tok 3 0 [91] r by rw [HNX.out, if_pos rfl])
        go_wp2_with fail
        refine (take_yes (HQ2.out.drewN nq) (by omega) HCc.out).mono ?_; rintro e w4 ⟨rfl, hst4, hb4⟩
        have HQ4 := Lib.hid hst4
        have HBx := Lib.hid ((HB2.out.drewN nq).trans hb4)
        have HTx := Lib.hid ((((Fr.refl R w2).drewN nq).trans hb4).tokB (by omega) HT2.out)
        clear hst4 hb4
        unfold bv
        have hcv := conv_one w4 91
        have e91 : ((91 : UInt8).toNat : Int) = 91 := rfl
        rw [e91] at hcv
        clear e91
        have hT5 := ((Fr.refl R w4).alloc (.cells #[.int .u8 91] 5)).tokB (by omega) HTx.out
        obtain ⟨t0, t1, t2, g0, g1, g2⟩ := tok_c hT5
        have HT5 := Lib.hid hT5
        clear hT5
        go_wp2_with fail
        exact tok_end Try.results19 HT5.out rfl (outO_tok HN.out HS1.out ⟨rfl, (HQ4.out.alloc _).tok HT5.out (by omega) _ _ _, (HBx.out.alloc _).tok (Nat.le_refl _) _ _ _⟩)
      rw [if_neg h91] at HNX
      by_cases h93 : c = 93
      · subst h93
        have HN := Lib.hid (show nxt tk (l.drop p) = .tok 3 0 [93] r by rw [HNX.out, if_pos rfl])
        go_wp2_with fail
        refine (take_yes (HQ2.out.drewN nq) (by omega) HCc.out).mono ?_; rintro e w4 ⟨rfl, hst4, hb4⟩
        have HQ4 := Lib.hid hst4
        have HBx := Lib.hid ((HB2.out.drewN nq).trans hb4)
        have HTx := Lib.hid ((((Fr.refl R w2).drewN nq).trans hb4).tokB (by omega) HT2.out)
        clear hst4 hb4
        unfold bv
        have hcv := conv_one w4 93
        have e93 : ((93 : UInt8).toNat : Int) = 93 := rfl
        rw [e93] at hcv
        clear e93
        have hT5 := ((Fr.refl R w4).alloc (.cells #[.int .u8 93] 5)).tokB (by omega) HTx.out
        obtain ⟨t0, t1, t2, g0, g1, g2⟩ := tok_c hT5
        have HT5 := Lib.hid hT5
        clear hT5
        go_wp2_with fail
        exact tok_end Try.results19 HT5.out rfl (outO_tok HN.out HS1.out ⟨rfl, (HQ4.out.alloc _).tok HT5.out (by omega) _ _ _, (HBx.out.alloc _).tok (Nat.le_refl _) _ _ _⟩)
      rw [if_neg h93] at HNX
      by_cases h47 : c = 47
      · subst h47
        have HN := Lib.hid (show nxt tk (l.drop p) = sla (l.drop (q + 1)) by rw [HNX.out, if_pos rfl, HS1.out])
        go_wp2_with fail
        refine (take_yes (HQ2.out.drewN nq) (by omega) HCc.out).mono ?_; rintro e w4 ⟨rfl, hst4, hb4⟩
        have HQ4 := Lib.hid hst4
        have HBx := Lib.hid ((HB2.out.drewN nq).trans hb4)
        have HTx := Lib.hid ((((Fr.refl R w2).drewN nq).trans hb4).tokB (by omega) HT2.out)
        clear hst4 hb4
        unfold bv
        go_wp2_with fail
        refine (slashed_at HQ4.out hl).mono ?_
        intro e w3 ho
        obtain ⟨o, hoe⟩ : ∃ o, sla (l.drop (q + 1)) = o := ⟨_, rfl⟩
        rw [hoe] at ho HN
        clear hoe
        cases o with
        | err x =>
          obtain ⟨rfl, hb3⟩ := ho
          have HB3 := Lib.hid (HBx.out.trans hb3)
          clear hb3
          unfold gaveUp
          go_wp2_with fail
          exact ⟨rfl, outO_err HN.out ⟨rfl, HB3.out⟩⟩
        | tok k3 n3 t3 r3 =>
          obtain ⟨q3, tx3, hq3, rfl, hst3, hb3⟩ := ho
          have hT3 := hb3.tokB (by omega) HTx.out
          obtain ⟨t0, t1, t2, g0, g1, g2⟩ := tok_c hT3
          have HT3 := Lib.hid hT3
          have HQ3 := Lib.hid hst3
          have HQQ := Lib.hid hq3
          have HB3 := Lib.hid (HBx.out.trans hb3)
          clear hb3 hT3 hst3 hq3
          unfold tkV
          go_wp2_with fail
          exact tok_end Try.results19 HT3.out rfl (outO_tok HN.out HQQ.out ⟨rfl, HQ3.out.tok HT3.out (by omega) _ _ _, HB3.out.tok (Nat.le_refl _) _ _ _⟩)
      rw [if_neg h47] at HNX
      have n0 : ∀ k : UInt8, c ≠ k → ((c.toNat : Int) == (k.toNat : Int)) = false := fun k hk => beqF (fun e => hk (UInt8.toNat_inj.1 e))
      have b40 : ((c.toNat : Int) == 40) = false := n0 40 h40
      have b60 : ((c.toNat : Int) == 60) = false := n0 60 h60
      have b62 : ((c.toNat : Int) == 62) = false := n0 62 h62
      have b123 : ((c.toNat : Int) == 123) = false := n0 123 h123
      have b125 : ((c.toNat : Int) == 125) = false := n0 125 h125
      have b91 : ((c.toNat : Int) == 91) = false := n0 91 h91
      have b93 : ((c.toNat : Int) == 93) = false := n0 93 h93
      have b47 : ((c.toNat : Int) == 47) = false := n0 47 h47
      clear n0 h40 h60 h62 h123 h125 h91 h93 h47
      go_wp2_with fail
      refine (take_yes (HQ2.out.drewN nq) (by omega) HCc.out).mono ?_; rintro e w4 ⟨rfl, hst4, hb4⟩
      have HQ4 := Lib.hid hst4
      have HBx := Lib.hid ((HB2.out.drewN nq).trans hb4)
      have HTx := Lib.hid ((((Fr.refl R w2).drewN nq).trans hb4).tokB (by omega) HT2.out)
      clear hst4 hb4
      unfold bv
      go_wp2_with fail
      refine (giveUp_at _ _).mono ?_; rintro e w6 ⟨rfl, rfl⟩
      unfold gaveUp
      go_wp2_with fail
      exact ⟨rfl, outO_err HNX.out ⟨rfl, HBx.out⟩⟩
end Go.Proofs.Ytaebpjcigajolaa
