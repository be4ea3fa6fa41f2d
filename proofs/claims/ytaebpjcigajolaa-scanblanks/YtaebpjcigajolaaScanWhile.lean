/-
  Taking bytes for as long as they are as asked, by contracts: blanks, what is in a comment, regular bytes.
-/
import Derived.Test.YtaebpjcigajolaaScanByte
import Derived.Deep.LoopGhost
namespace Go.Proofs.Ytaebpjcigajolaa
open Go.RowKit
open Sc
namespace Sc
theorem drop_at {l s : List UInt8} {q : Nat} {c : UInt8} (h : l.drop q = c :: s) : l[q]? = some c ∧ l.drop (q + 1) = s ∧ q < l.length := by
  have h1 : q < l.length := by
    rcases Nat.lt_or_ge q l.length with h1 | h1
    · exact h1
    · rw [List.drop_of_length_le h1] at h; cases h
  rw [List.drop_eq_getElem_cons h1] at h
  injection h with h2 h3
  exact ⟨by rw [List.getElem?_eq_getElem h1, h2], h3, h1⟩
theorem drop_end {l : List UInt8} {q : Nat} (h : l.drop q = []) (hq : q ≤ l.length) : q = l.length := by
  rw [List.drop_eq_nil_iff] at h; omega
end Sc
/-- the reader has gone behind all bytes that are as asked, and answers them as a slice -/
def Cut (N R : Nat) (ba : Option Addr) (cap : Nat) (l : List UInt8) (p : Nat) (tx : List UInt8) (pr : UInt8 → Bool) (w : World) (e : Ending) (w' : World) : Prop :=
  ∃ q, p ≤ q ∧ l.drop q = (l.drop p).dropWhile pr ∧ ∃ a c, e = .returned (.slice a (q - p) c) ∧ RdB w' N a ((l.drop p).take (q - p)) ∧ St w' N R ba cap l q tx ∧ Fr R w w'
def WhileRel (N R : Nat) (ba : Option Addr) (cap : Nat) (l : List UInt8) (p : Nat) (tx : List UInt8) (pr : UInt8 → Bool) (w : World) (k : Nat) (wr : World) : Prop :=
  ∃ q, p ≤ q ∧ k = l.length - q ∧ St wr N R ba cap l q tx ∧ (l.drop p).dropWhile pr = (l.drop q).dropWhile pr ∧ Fr R w wr
theorem rd_map {w : World} {N p k : Nat} {ba : Option Addr} {l : List UInt8} (h : RdB w N ba l) : RdB w N (ba.map fun x => x.add p) ((l.drop p).take k) := by
  intro i c hc
  rw [List.getElem?_take] at hc
  split at hc
  · rw [List.getElem?_drop] at hc
    obtain ⟨b, off, rfl, hb, hcell⟩ := h _ _ hc
    refine ⟨b, off + p, by simp [Addr.add], hb, ?_⟩
    rw [show off + p + i = off + (p + i) by omega]; exact hcell
  · cases hc
theorem rd_at {w : World} {N p k b off : Nat} {l : List UInt8} (h : RdB w N (some ⟨b, off, none⟩) l) : RdB w N (some ⟨b, off + p, none⟩) ((l.drop p).take k) := by
  intro i c hc
  rw [List.getElem?_take] at hc
  split at hc
  · rw [List.getElem?_drop] at hc
    obtain ⟨b', off', e, hb, hcell⟩ := h _ _ hc
    cases e
    refine ⟨b, off + p, rfl, hb, ?_⟩
    rw [show off + p + i = off + (p + i) by omega]; exact hcell
  · cases hc
theorem rd_none {w : World} {N k : Nat} {a : Option Addr} {l : List UInt8} (hk : k = 0) : RdB w N a (l.take k) := by
  subst hk; intro i c hc; simp at hc
theorem cut_mk {w w' : World} {N R cap p q c : Nat} {ba a : Option Addr} {l tx : List UInt8} {pr : UInt8 → Bool} (h1 : p ≤ q) (h2 : l.drop q = (l.drop p).dropWhile pr) (h3 : RdB w' N a ((l.drop p).take (q - p)))
    (h4 : St w' N R ba cap l q tx) (h5 : Fr R w w') : Cut N R ba cap l p tx pr w (.returned (.slice a (q - p) c)) w' :=
  ⟨q, h1, h2, a, c, rfl, h3, h4, h5⟩
/-- bytes for as long as they are as asked: the place behind them, and a slice of them -/
theorem takeWhile_blank {w : World} {N R cap p : Nat} {ba : Option Addr} {l tx : List UInt8} (h : St w N R ba cap l p tx) (hl : l.length ≤ 100000) :
    Calls Try.prog 47 #[.pointer (some ⟨R, 0, none⟩), .func (.func 48) #[] #[]] w (Cut N R ba cap l p tx blnk w) := by
  have hp := h.le
  have hcl := h.cl
  have c1 := h.c1
  have HS := Lib.hid h
  clear h
  go_enter Try.func47, Try.ntmps47
  go_wp2_with fail
  clear c1
  go_loopg [] (l.length - p) (fun k wr => WhileRel N R ba cap l p tx blnk w k wr)
  case atStart => exact ⟨p, Nat.le_refl _, rfl, HS.out, rfl, Fr.refl _ _⟩
  case round =>
    obtain ⟨q, hpq, hk, hst, hdw, hb⟩ := hrel
    have hq := hst.le
    have c0 := hst.c0
    have c1 := hst.c1
    have f1 := hst.fz 1
    have HQ := Lib.hid hst
    have HB := Lib.hid hb
    have HK := Lib.hid hk
    have HA := Lib.hid (atEnd_drew hst)
    clear hb hk
    cases hs : l.drop q with
    | nil =>
      have hql : q = l.length := drop_end hs hst.le
      rw [decide_eq_true hql] at HA
      have HE := Lib.hid (show l.drop q = (l.drop p).dropWhile blnk by rw [hdw, hs]; rfl)
      clear hs hdw hst hql
      go_wp2_with fail
      go_quiet (first | (go_at_call 30; exact Calls.quiet_of (HA.out _)))
      go_wp2_with fail
      go_quiet (fail)
      go_wp2_with fail
      all_goals go_ret
      all_goals first | exact cut_mk hpq HE.out (rd_map (HQ.out.drewN _).rd) (HQ.out.drewN _) (HB.out.drewN _) | (have hcp : cap = p := (by assumption); subst hcp; exact cut_mk hpq HE.out (rd_none (by omega)) (HQ.out.drewN _) (HB.out.drewN _))
    | cons c s =>
      obtain ⟨hc, hs1, hlt⟩ := drop_at hs
      rw [decide_eq_false (by omega)] at HA
      obtain ⟨b, off, rfl, hbN, hbR, hcell⟩ := hst.byte hc
      have HP := Lib.hid (fun n => isBlank_at c (wr.drewN n))
      unfold Says at HP
      rw [hs, List.dropWhile_cons] at hdw
      cases hpr : blnk c with
      | true =>
        rw [hpr, if_pos rfl, ← hs1] at hdw
        rw [hpr] at HP
        have HD := Lib.hid hdw
        clear hs hs1 hdw hst hc hpr
        go_wp2_with fail
        go_quiet (first | (go_at_call 30; exact Calls.quiet_of (HA.out _)) | (go_at_call 48; exact Calls.quiet_of_same (HP.out _)))
        go_wp2_with fail
        go_roundg (l.length - (q + 1))
        case measure => have := HK.out; omega
        case rel => exact ⟨q + 1, by omega, rfl, (HQ.out.drewN _).move (q := q + 1) (by omega), HD.out, (HB.out.drewN _).put _ _⟩
      | false =>
        rw [hpr, if_neg (by decide), ← hs] at hdw
        rw [hpr] at HP
        have HE := Lib.hid hdw.symm
        clear hs hs1 hdw hst hc hpr
        go_wp2_with fail
        go_quiet (first | (go_at_call 30; exact Calls.quiet_of (HA.out _)) | (go_at_call 48; exact Calls.quiet_of_same (HP.out _)))
        go_wp2_with fail
        go_quiet (fail)
        go_wp2_with fail
        all_goals go_ret
        exact cut_mk hpq HE.out (rd_at ((HQ.out.drewN _).drewN _).rd) ((HQ.out.drewN _).drewN _) ((HB.out.drewN _).drewN _)
/-- bytes for as long as they are as asked: the place behind them, and a slice of them -/
theorem takeWhile_comment {w : World} {N R cap p : Nat} {ba : Option Addr} {l tx : List UInt8} (h : St w N R ba cap l p tx) (hl : l.length ≤ 100000) :
    Calls Try.prog 47 #[.pointer (some ⟨R, 0, none⟩), .func (.func 49) #[] #[]] w (Cut N R ba cap l p tx inCom w) := by
  have hp := h.le
  have hcl := h.cl
  have c1 := h.c1
  have HS := Lib.hid h
  clear h
  go_enter Try.func47, Try.ntmps47
  go_wp2_with fail
  clear c1
  go_loopg [] (l.length - p) (fun k wr => WhileRel N R ba cap l p tx inCom w k wr)
  case atStart => exact ⟨p, Nat.le_refl _, rfl, HS.out, rfl, Fr.refl _ _⟩
  case round =>
    obtain ⟨q, hpq, hk, hst, hdw, hb⟩ := hrel
    have hq := hst.le
    have c0 := hst.c0
    have c1 := hst.c1
    have f1 := hst.fz 1
    have HQ := Lib.hid hst
    have HB := Lib.hid hb
    have HK := Lib.hid hk
    have HA := Lib.hid (atEnd_drew hst)
    clear hb hk
    cases hs : l.drop q with
    | nil =>
      have hql : q = l.length := drop_end hs hst.le
      rw [decide_eq_true hql] at HA
      have HE := Lib.hid (show l.drop q = (l.drop p).dropWhile inCom by rw [hdw, hs]; rfl)
      clear hs hdw hst hql
      go_wp2_with fail
      go_quiet (first | (go_at_call 30; exact Calls.quiet_of (HA.out _)))
      go_wp2_with fail
      go_quiet (fail)
      go_wp2_with fail
      all_goals go_ret
      all_goals first | exact cut_mk hpq HE.out (rd_map (HQ.out.drewN _).rd) (HQ.out.drewN _) (HB.out.drewN _) | (have hcp : cap = p := (by assumption); subst hcp; exact cut_mk hpq HE.out (rd_none (by omega)) (HQ.out.drewN _) (HB.out.drewN _))
    | cons c s =>
      obtain ⟨hc, hs1, hlt⟩ := drop_at hs
      rw [decide_eq_false (by omega)] at HA
      obtain ⟨b, off, rfl, hbN, hbR, hcell⟩ := hst.byte hc
      have HP := Lib.hid (fun n => inComment_at c (wr.drewN n))
      unfold Says at HP
      rw [hs, List.dropWhile_cons] at hdw
      cases hpr : inCom c with
      | true =>
        rw [hpr, if_pos rfl, ← hs1] at hdw
        rw [hpr] at HP
        have HD := Lib.hid hdw
        clear hs hs1 hdw hst hc hpr
        go_wp2_with fail
        go_quiet (first | (go_at_call 30; exact Calls.quiet_of (HA.out _)) | (go_at_call 49; exact Calls.quiet_of_same (HP.out _)))
        go_wp2_with fail
        go_roundg (l.length - (q + 1))
        case measure => have := HK.out; omega
        case rel => exact ⟨q + 1, by omega, rfl, (HQ.out.drewN _).move (q := q + 1) (by omega), HD.out, (HB.out.drewN _).put _ _⟩
      | false =>
        rw [hpr, if_neg (by decide), ← hs] at hdw
        rw [hpr] at HP
        have HE := Lib.hid hdw.symm
        clear hs hs1 hdw hst hc hpr
        go_wp2_with fail
        go_quiet (first | (go_at_call 30; exact Calls.quiet_of (HA.out _)) | (go_at_call 49; exact Calls.quiet_of_same (HP.out _)))
        go_wp2_with fail
        go_quiet (fail)
        go_wp2_with fail
        all_goals go_ret
        exact cut_mk hpq HE.out (rd_at ((HQ.out.drewN _).drewN _).rd) ((HQ.out.drewN _).drewN _) ((HB.out.drewN _).drewN _)
/-- bytes for as long as they are as asked: the place behind them, and a slice of them -/
theorem takeWhile_regular {w : World} {N R cap p : Nat} {ba : Option Addr} {l tx : List UInt8} (h : St w N R ba cap l p tx) (hl : l.length ≤ 100000) :
    Calls Try.prog 47 #[.pointer (some ⟨R, 0, none⟩), .func (.func 31) #[] #[]] w (Cut N R ba cap l p tx regular w) := by
  have hp := h.le
  have hcl := h.cl
  have c1 := h.c1
  have HS := Lib.hid h
  clear h
  go_enter Try.func47, Try.ntmps47
  go_wp2_with fail
  clear c1
  go_loopg [] (l.length - p) (fun k wr => WhileRel N R ba cap l p tx regular w k wr)
  case atStart => exact ⟨p, Nat.le_refl _, rfl, HS.out, rfl, Fr.refl _ _⟩
  case round =>
    obtain ⟨q, hpq, hk, hst, hdw, hb⟩ := hrel
    have hq := hst.le
    have c0 := hst.c0
    have c1 := hst.c1
    have f1 := hst.fz 1
    have HQ := Lib.hid hst
    have HB := Lib.hid hb
    have HK := Lib.hid hk
    have HA := Lib.hid (atEnd_drew hst)
    clear hb hk
    cases hs : l.drop q with
    | nil =>
      have hql : q = l.length := drop_end hs hst.le
      rw [decide_eq_true hql] at HA
      have HE := Lib.hid (show l.drop q = (l.drop p).dropWhile regular by rw [hdw, hs]; rfl)
      clear hs hdw hst hql
      go_wp2_with fail
      go_quiet (first | (go_at_call 30; exact Calls.quiet_of (HA.out _)))
      go_wp2_with fail
      go_quiet (fail)
      go_wp2_with fail
      all_goals go_ret
      all_goals first | exact cut_mk hpq HE.out (rd_map (HQ.out.drewN _).rd) (HQ.out.drewN _) (HB.out.drewN _) | (have hcp : cap = p := (by assumption); subst hcp; exact cut_mk hpq HE.out (rd_none (by omega)) (HQ.out.drewN _) (HB.out.drewN _))
    | cons c s =>
      obtain ⟨hc, hs1, hlt⟩ := drop_at hs
      rw [decide_eq_false (by omega)] at HA
      obtain ⟨b, off, rfl, hbN, hbR, hcell⟩ := hst.byte hc
      have HP := Lib.hid (fun n => isRegular_at c (wr.drewN n))
      unfold Says at HP
      rw [hs, List.dropWhile_cons] at hdw
      cases hpr : regular c with
      | true =>
        rw [hpr, if_pos rfl, ← hs1] at hdw
        rw [hpr] at HP
        have HD := Lib.hid hdw
        clear hs hs1 hdw hst hc hpr
        go_wp2_with fail
        go_quiet (first | (go_at_call 30; exact Calls.quiet_of (HA.out _)) | (go_at_call 31; exact Calls.quiet_of_same (HP.out _)))
        go_wp2_with fail
        go_roundg (l.length - (q + 1))
        case measure => have := HK.out; omega
        case rel => exact ⟨q + 1, by omega, rfl, (HQ.out.drewN _).move (q := q + 1) (by omega), HD.out, (HB.out.drewN _).put _ _⟩
      | false =>
        rw [hpr, if_neg (by decide), ← hs] at hdw
        rw [hpr] at HP
        have HE := Lib.hid hdw.symm
        clear hs hs1 hdw hst hc hpr
        go_wp2_with fail
        go_quiet (first | (go_at_call 30; exact Calls.quiet_of (HA.out _)) | (go_at_call 31; exact Calls.quiet_of_same (HP.out _)))
        go_wp2_with fail
        go_quiet (fail)
        go_wp2_with fail
        all_goals go_ret
        exact cut_mk hpq HE.out (rd_at ((HQ.out.drewN _).drewN _).rd) ((HQ.out.drewN _).drewN _) ((HB.out.drewN _).drewN _)
end Go.Proofs.Ytaebpjcigajolaa
