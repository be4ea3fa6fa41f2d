/-
  The walk of the law ScanAll.
-/
import Derived.Test.YtaebpjcigajolaaScanTk
namespace Go.Proofs.Ytaebpjcigajolaa
open Go.RowKit
open Sc
theorem same_rows {w : World} {a1 a2 : Option Addr} {N1 N2 c1 c2 : Nat} {l : List UInt8} (hl : l.length ≤ 100000) (h1 : RdB w N1 a1 l) (h2 : RdB w N2 a2 l) :
    Calls Try.prog 12 #[.slice a1 l.length c1, .slice a2 l.length c2] w fun e w' => e = .returned (.bool true) ∧ Below w.heap.size w w' := by
  have H1 := Lib.hid h1
  have H2 := Lib.hid h2
  clear h1 h2
  go_enter Try.func12, Try.ntmps12
  go_wp2_with fail
  go_loopw [5] (fun i wr => ∃ k j : Nat, i = .int .i64 k ∧ k ≤ l.length ∧ wr = w.drewN j) (fun i _ => l.length - (intOf i).toNat)
  case atStart => exact ⟨0, 0, rfl, Nat.zero_le _, rfl⟩
  case round =>
    obtain ⟨k, j, rfl, hk, rfl⟩ := hrel
    by_cases hlt : k < l.length
    · have ht : l[k]? = some l[k] := List.getElem?_eq_getElem hlt
      obtain ⟨t, htt⟩ : ∃ t, l[k] = t := ⟨_, rfl⟩
      rw [htt] at ht
      obtain ⟨b1, o1, rfl, _, hc1⟩ := H1.out k t ht
      obtain ⟨b2, o2, rfl, _, hc2⟩ := H2.out k t ht
      clear htt ht
      go_wp2_with fail
      go_quiet (fail)
      go_wp2_with fail
      go_roundw
      case rel => exact ⟨k + 1, _, by go_num, by omega, rfl⟩
      case measure => simp [intOf]; omega
    · go_wp2_with fail
      go_ret
      exact ⟨rfl, belowDrewN _ _ _⟩
/-- where the law stands: at place p, in its i-th round -/
def AllRel (l : List UInt8) (w : World) (a2 : Option Addr) (ad : Option Addr) (c : Nat) (at_ i : Value) (wr : World) : Prop :=
  ∃ p k : Nat, at_ = .int .i64 p ∧ i = .int .i64 k ∧ k ≤ p ∧ p ≤ l.length ∧ Below w.heap.size w wr ∧ InRow wr ad l c ∧ RdB wr wr.heap.size a2 l ∧ Mx wr
theorem rd_later {w w' : World} {a : Option Addr} {l : List UInt8} (h : RdB w w.heap.size a l) (hb : Below w.heap.size w w') : RdB w' w'.heap.size a l := (h.below hb).up hb.size
theorem tokX_rel {w w' : World} (hb : Below w.heap.size w w') (k n : Int) (t : ByteArray) : Below w.heap.size w (w'.alloc (tokB k n t)) := hb.alloc hb.size _
set_option maxRecDepth 100000 in
set_option maxHeartbeats 4000000 in
theorem lawScanAll (ad : Option Addr) (c : Nat) (l : List UInt8) (w : World) (hin : InRow w ad l c) (hm : l.length ≤ maxLen) (hmx : Mx w) :
    Calls Try.prog 4 #[.slice ad l.length c] w fun e w' => e = .returned (.bool true) ∧ Below w.heap.size w w' := by
  unfold maxLen at hm
  by_cases hl : l.length ≤ 20000
  · have hd : ¬ 20000 < l.length := by omega
    obtain ⟨a2, c2, w2, hr, hb2, hc2, hrd2, hs2, _⟩ := copied hin (by omega) 22
    have HR := Lib.hid hr
    have HB2 := Lib.hid hb2
    have HIN2 := Lib.hid (hin.below hb2)
    have HRD2 := Lib.hid hrd2
    have HMX2 := Lib.hid (hmx.below hb2)
    clear hr hb2 hrd2 hin hmx
    go_enter Try.func4, Try.ntmps4
    go_wp2_with (at_builtin; refine wpList_append_run rfl (.tmp 16) (.tmp 17) 22 22 (.slice a2 l.length c2) rfl rfl _ _ rfl rfl HR.out ?_)
    go_loopw [4, 5] (fun at_ i wr => AllRel l w a2 ad c at_ i wr) (fun at_ _ _ => l.length - (intOf at_).toNat)
    case atStart => exact ⟨0, 0, rfl, rfl, Nat.le_refl _, Nat.zero_le _, HB2.out, HIN2.out, HRD2.out, HMX2.out⟩
    case round =>
      obtain ⟨p, k, rfl, rfl, hkp, hp, hb, hin, hrd, hmx⟩ := hrel
      have HB := Lib.hid hb
      have HIN := Lib.hid hin
      have HRD := Lib.hid hrd
      have HMX := Lib.hid hmx
      have HN := Lib.hid (next_at (w := wr) (p := p) hrd hc2 (by omega) hp (tk := tokR) (fun _ _ _ _ => dec_tk hmx))
      have hdk : decide ((k : Int) ≤ (l.length : Int)) = true := decide_eq_true (by omega)
      obtain ⟨o, ho⟩ : ∃ o, nxt tokR (l.drop p) = o := ⟨_, rfl⟩
      rw [ho] at HN
      have HO := Lib.hid ho
      have hsz := hb.size
      clear hb hin hrd hmx ho
      go_wp2_with fail
      refine HN.out.mono ?_; rintro e w3 ⟨rfl, hb3⟩
      have HB3 := Lib.hid hb3
      clear hb3
      cases o with
      | err x =>
        have hx := beg_err (HO.out : beg tokR _ = _)
        have hx0 : (x != 0) = true := by simp [hx]
        have hin4 := HIN.out.below (tokX_rel HB3.out 0 0 ⟨#[]⟩)
        have hR := refNext_at (w := w3.alloc (tokB 0 0 ⟨#[]⟩)) (p := p) hin4.rd hin4.1 (by omega) hp tokR_good (ref_tk _)
        rw [HO.out] at hR
        have HR4 := Lib.hid hR
        clear hR hin4 hx
        unfold nextV tkV
        go_wp2_with fail
        refine HR4.out.mono ?_; rintro e w5 ⟨rfl, hb5⟩
        have HBa := Lib.hid (show Below wr.heap.size wr w5 from (tokX_rel HB3.out 0 0 ⟨#[]⟩).trans (hb5.mono (tokX_rel HB3.out 0 0 ⟨#[]⟩).size))
        have hT : w5.heap[w3.heap.size]? = some (tokB 0 0 ⟨#[]⟩) := (hb5.block w3.heap.size (by simp)).trans (tok_new w3 0 0 ⟨#[]⟩)
        have hTa := tok_alloc hT (tokB 0 0 ⟨#[]⟩)
        obtain ⟨t0, t1, t2, g0, g1, g2⟩ := tok_c hTa
        unfold tokB at t0 t1 t2 g0 g1 g2
        clear hb5 hT hTa
        unfold nextV tkV
        go_wp2_with fail
        refine (answers_any _).mono ?_; rintro e w6 ⟨rfl, hb6⟩
        have HB6 := Lib.hid (show Below wr.heap.size wr w6 from (tokX_rel HBa.out 0 0 ⟨#[]⟩).trans (hb6.mono (tokX_rel HBa.out 0 0 ⟨#[]⟩).size))
        clear hb6 t0 t1 t2 g0 g1 g2
        go_wp2_with fail
        refine (same_rows (by omega) (rd_later HRD.out HB6.out) (HIN.out.below HB6.out).rd).mono ?_; rintro e w7 ⟨rfl, hb7⟩
        have HB7 := Lib.hid (show Below wr.heap.size wr w7 from HB6.out.trans (hb7.mono HB6.out.size))
        clear hb7
        go_wp2_with fail
        go_ret
        exact ⟨rfl, HB.out.trans (HB7.out.mono HB.out.size)⟩
      | tok tkd tn tt tr =>
        have hcase := nxt_tok tokR_kind HO.out
        have hin4 := HIN.out.below (tokX_rel HB3.out tkd tn ⟨tt.toArray⟩)
        have hR := refNext_at (w := w3.alloc (tokB tkd tn ⟨tt.toArray⟩)) (p := p) hin4.rd hin4.1 (by omega) hp tokR_good (ref_tk _)
        rw [HO.out] at hR
        have HR4 := Lib.hid hR
        have HCase := Lib.hid hcase
        clear hR hin4 hcase
        unfold nextV tkV
        go_wp2_with fail
        refine HR4.out.mono ?_; rintro e w5 ⟨rfl, hb5⟩
        have HBa := Lib.hid (show Below wr.heap.size wr w5 from (tokX_rel HB3.out tkd tn ⟨tt.toArray⟩).trans (hb5.mono (tokX_rel HB3.out tkd tn ⟨tt.toArray⟩).size))
        have hT : w5.heap[w3.heap.size]? = some (tokB tkd tn ⟨tt.toArray⟩) := (hb5.block w3.heap.size (by simp)).trans (tok_new w3 _ _ _)
        have hTa := tok_alloc hT (tokB tkd tn ⟨tt.toArray⟩)
        obtain ⟨t0, t1, t2, g0, g1, g2⟩ := tok_c hTa
        unfold tokB at t0 t1 t2 g0 g1 g2
        clear hb5 hT hTa
        unfold nextV tkV
        rcases HCase.out with ⟨rfl, rfl⟩ | ⟨hk0, hr0⟩
        · go_wp2_with fail
          refine (answers_any _).mono ?_; rintro e w6 ⟨rfl, hb6⟩
          have HB6 := Lib.hid (show Below wr.heap.size wr w6 from (tokX_rel HBa.out 0 tn ⟨tt.toArray⟩).trans (hb6.mono (tokX_rel HBa.out 0 tn ⟨tt.toArray⟩).size))
          clear hb6 t0 t1 t2 g0 g1 g2
          go_wp2_with fail
          refine (same_rows (by omega) (rd_later HRD.out HB6.out) (HIN.out.below HB6.out).rd).mono ?_; rintro e w7 ⟨rfl, hb7⟩
          have HB7 := Lib.hid (show Below wr.heap.size wr w7 from HB6.out.trans (hb7.mono HB6.out.size))
          clear hb7
          go_wp2_with fail
          go_ret
          exact ⟨rfl, HB.out.trans (HB7.out.mono HB.out.size)⟩
        · have hk1 : (tkd == 0) = false := by simp [hk0]
          rw [List.length_drop] at hr0
          have hlp : p < l.length - tr.length := by omega
          obtain ⟨np, hnp⟩ : ∃ np, l.length - tr.length = np := ⟨_, rfl⟩
          rw [hnp] at hlp ⊢
          have hnl : np ≤ l.length := by omega
          have HB6 := Lib.hid (tokX_rel HBa.out tkd tn ⟨tt.toArray⟩)
          clear hk0 hr0 HR4 HCase
          go_wp2_with fail
          go_roundw
          case rel => exact ⟨np, k + 1, rfl, by go_num, by omega, hnl, HB.out.trans (HB6.out.mono HB.out.size), HIN.out.below HB6.out, rd_later HRD.out HB6.out, HMX.out.below HB6.out⟩
          case measure => simp [intOf]; omega
  · have hd : 20000 < l.length := by omega
    go_enter Try.func4, Try.ntmps4
    go_wp2_with fail
    refine (answers_any _).mono ?_; rintro e w1 ⟨rfl, hb1⟩
    go_wp2_with fail
    go_ret
    exact ⟨rfl, hb1⟩
end Go.Proofs.Ytaebpjcigajolaa
