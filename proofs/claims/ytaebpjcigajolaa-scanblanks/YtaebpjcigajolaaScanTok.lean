/-
  Names, blanks and comments, by contracts.
-/
import Derived.Test.YtaebpjcigajolaaScanHex
namespace Go.Proofs.Ytaebpjcigajolaa
open Go.RowKit
open Sc
theorem conv_rd {w : World} {N c : Nat} {a : Option Addr} {t : List UInt8} (h : RdB w N a t) : (convert 22 9 (.slice a t.length c)).run Try.prog w = .ok (.string ⟨t.toArray⟩) w := by
  cases t with
  | nil =>
    cases a with
    | none => exact run_convert_bytes_nil w 22 5 Try.underlying22 Try.underlying5 0 c 9 Try.underlying9
    | some ad => exact run_convert_bytes_back w 22 9 5 ad c [] Try.underlying22 Try.underlying5 Try.underlying9 (fun j hj => by simp at hj)
  | cons x t =>
    obtain ⟨b, off, rfl, _, _⟩ := h 0 x rfl
    refine run_convert_bytes_back w 22 9 5 ⟨b, off, none⟩ c (x :: t) Try.underlying22 Try.underlying5 Try.underlying9 (fun j hj => ?_)
    obtain ⟨b', off', e, _, hc⟩ := h j _ (List.getElem?_eq_getElem hj)
    cases e
    rw [← hc]
    congr 1
    cases j <;> simp [Addr.add]
theorem tw_take {l : List UInt8} {p q : Nat} {pr : UInt8 → Bool} (h : l.drop q = (l.drop p).dropWhile pr) (hq : q ≤ l.length) (hp : p ≤ q) : (l.drop p).take (q - p) = (l.drop p).takeWhile pr := by
  have e := List.takeWhile_append_dropWhile (p := pr) (l := l.drop p)
  have hl : ((l.drop p).takeWhile pr).length = q - p := by
    have e2 := congrArg List.length e
    rw [List.length_append, ← h, List.length_drop, List.length_drop] at e2
    omega
  have key : ∀ a b s : List UInt8, a ++ b = s → s.take a.length = a := by rintro a b _ rfl; simp
  rw [← hl]; exact key _ _ _ e
theorem dw_twice (pr : UInt8 → Bool) (s : List UInt8) : (s.dropWhile pr).dropWhile pr = s.dropWhile pr := by
  rcases dw_nil_or (p := pr) s with h | ⟨c, t, h, hc⟩
  · rw [h]; rfl
  · rw [h, List.dropWhile_cons, if_neg (by simp [hc])]
theorem head_not {pr : UInt8 → Bool} {c : UInt8} {s : List UInt8} (h : (c :: s).dropWhile pr = c :: s) : pr c = false := by
  rcases dw_nil_or (p := pr) (c :: s) with e | ⟨x, t, e, hx⟩
  · rw [e] at h; cases h
  · rw [e] at h; cases h; exact hx
theorem hsk_nil {l s0 : List UInt8} {q : Nat} (h : skp false s0 = skp false (l.drop q)) (hs : l.drop q = []) : skp false s0 = [] := by rw [h, hs]; rfl
/-- a name is answered, or given up -/
def NamO (N R : Nat) (ba : Option Addr) (cap : Nat) (l : List UInt8) (p : Nat) (tx : List UInt8) (w : World) (e : Ending) (w' : World) : Prop :=
  if 127 < ((l.drop p).takeWhile regular).length then Gave R 9 w e w'
  else ∃ q, l.drop q = (l.drop p).dropWhile regular ∧ Went N R ba cap l q tx (.string ⟨((l.drop p).takeWhile regular).toArray⟩) w e w'
theorem namO_no {N R : Nat} {ba : Option Addr} {cap : Nat} {l : List UInt8} {p : Nat} {tx : List UInt8} {w : World} {e : Ending} {w' : World} (h : 127 < ((l.drop p).takeWhile regular).length) (hg : Gave R 9 w e w') : NamO N R ba cap l p tx w e w' := by
  unfold NamO; rw [if_pos h]; exact hg
theorem namO_yes {N R : Nat} {ba : Option Addr} {cap : Nat} {l : List UInt8} {p q : Nat} {tx : List UInt8} {w : World} {e : Ending} {w' : World} (h : ¬ 127 < ((l.drop p).takeWhile regular).length) (hq : l.drop q = (l.drop p).dropWhile regular) (hg : Went N R ba cap l q tx (.string ⟨((l.drop p).takeWhile regular).toArray⟩) w e w') : NamO N R ba cap l p tx w e w' := by
  unfold NamO; rw [if_neg h]; exact ⟨q, hq, hg⟩
theorem name_at {w : World} {N R cap p : Nat} {ba : Option Addr} {l tx : List UInt8} (h : St w N R ba cap l p tx) (hl : l.length ≤ 65535) :
    Calls Try.prog 50 #[.pointer (some ⟨R, 0, none⟩)] w (NamO N R ba cap l p tx w) := by
  have HW := Lib.hid (takeWhile_regular h (by omega))
  clear h
  go_enter Try.func50, Try.ntmps50
  go_wp2_with fail
  refine HW.out.mono ?_
  rintro e w1 ⟨q, hpq, hdw, a, c, rfl, hrd, hst, hb⟩
  have htw := tw_take hdw hst.le hpq
  have hlen : ((l.drop p).takeWhile regular).length = q - p := by rw [← htw, List.length_take, List.length_drop]; have := hst.le; omega
  have HQ := Lib.hid hst
  have HB := Lib.hid hb
  have HD := Lib.hid hdw
  rw [htw] at hrd
  have hcv := conv_rd (c := c) hrd
  rw [hlen] at hcv
  have hq := hst.le
  by_cases h127 : 127 < ((l.drop p).takeWhile regular).length
  · have HN := Lib.hid h127
    have hd : decide ((127 : Int) < ((q - p : Nat) : Int)) = true := decide_eq_true (by omega)
    clear h127 htw hlen hst hb hdw hrd hcv
    go_wp2_with fail
    refine (giveUp_at _ _).mono ?_; rintro e w2 ⟨rfl, rfl⟩
    unfold gaveUp
    go_wp2_with fail
    exact ⟨rfl, namO_no HN.out ⟨rfl, HB.out⟩⟩
  · have HN := Lib.hid h127
    have hd : decide ((127 : Int) < ((q - p : Nat) : Int)) = false := decide_eq_false (by omega)
    clear h127 htw hlen hst hb hdw hrd
    go_wp2_with fail
    go_ret
    exact namO_yes HN.out HD.out ⟨rfl, HQ.out, HB.out⟩
/-- behind blanks and comments -/
def SkipRel (N R : Nat) (ba : Option Addr) (cap : Nat) (l s0 tx : List UInt8) (w : World) (k : Nat) (wr : World) : Prop :=
  ∃ q, k = l.length - q ∧ St wr N R ba cap l q tx ∧ skp false s0 = skp false (l.drop q) ∧ (l.drop q).dropWhile blnk = l.drop q ∧ Fr R w wr
theorem skip_at {w : World} {N R cap p : Nat} {ba : Option Addr} {l tx : List UInt8} (h : St w N R ba cap l p tx) (hl : l.length ≤ 65535) :
    Calls Try.prog 29 #[.pointer (some ⟨R, 0, none⟩)] w fun e w' => ∃ q, l.drop q = skp false (l.drop p) ∧ Went N R ba cap l q tx (.tuple #[]) w e w' := by
  have HW := Lib.hid (takeWhile_blank h (by omega))
  obtain ⟨s0, hs0⟩ : ∃ s, l.drop p = s := ⟨_, rfl⟩
  have HS0 := Lib.hid hs0
  clear h hs0
  go_enter Try.func29, Try.ntmps29
  go_wp2_with fail
  refine HW.out.mono ?_
  rintro e w1 ⟨q, hpq, hdw, a, c, rfl, hrd, hst, hb⟩
  have HQ := Lib.hid hst
  have HB := Lib.hid hb
  have HD := Lib.hid hdw
  clear hrd hst hb hdw
  go_wp2_with fail
  go_loopg [] (l.length - q) (fun k wr => SkipRel N R ba cap l s0 tx w k wr)
  case atStart => exact ⟨q, rfl, HQ.out, by rw [HD.out, HS0.out]; exact skp_blank _, by rw [HD.out]; exact dw_twice _ _, HB.out⟩
  case round =>
    obtain ⟨q2, hk, hst, hsk, hdw, hb⟩ := hrel
    have HQ2 := Lib.hid hst
    have HB2 := Lib.hid hb
    have HK := Lib.hid hk
    have HSK := Lib.hid hsk
    have HDW := Lib.hid hdw
    have hq2 := hst.le
    clear hb hk hsk
    cases hs : l.drop q2 with
    | nil =>
      have HT := Lib.hid (takeIf_end hst (drop_end hs hst.le) 37)
      have HE := Lib.hid (show l.drop q2 = skp false s0 by rw [hsk_nil HSK.out hs, hs])
      clear hs hst hdw
      go_wp2_with fail
      refine HT.out.mono ?_; rintro e w2 ⟨rfl, hst2, hb2⟩
      go_wp2_with fail
      go_end0
      exact ⟨q2, by rw [HE.out, HS0.out], rfl, hst2, HB2.out.trans hb2⟩
    | cons c s =>
      obtain ⟨hc, hs1, hlt⟩ := drop_at hs
      have HT := Lib.hid (takeIf_at hst (by omega) hc 37)
      have HS1 := Lib.hid hs1
      have HS := Lib.hid hs
      by_cases h37 : c = 37
      · subst h37
        have e37 : (37 : UInt8).toNat = 37 := rfl
        rw [e37, if_pos rfl, decide_eq_true rfl] at HT
        clear hs hs1 hst hdw hc e37
        go_wp2_with fail
        refine HT.out.mono ?_; rintro e w2 ⟨rfl, hst2, hb2⟩
        go_wp2_with fail
        refine (takeWhile_comment hst2 (by omega)).mono ?_
        rintro e w3 ⟨q3, hpq3, hdw3, a3, c3, rfl, hrd3, hst3, hb3⟩
        go_wp2_with fail
        refine (takeWhile_blank hst3 (by omega)).mono ?_
        rintro e w4 ⟨q4, hpq4, hdw4, a4, c4, rfl, hrd4, hst4, hb4⟩
        have HR := Lib.hid (show skp false s0 = skp false (l.drop q4) by rw [HSK.out, HS.out, skp_percent, hdw4, hdw3, HS1.out])
        have HR2 := Lib.hid (show (l.drop q4).dropWhile blnk = l.drop q4 by rw [hdw4]; exact dw_twice _ _)
        have HQ4 := Lib.hid hst4
        have HB4 := Lib.hid (((HB2.out.trans hb2).trans hb3).trans hb4)
        clear hst2 hst3 hst4 hb2 hb3 hb4 hdw3 hdw4 hrd3 hrd4
        go_wp2_with fail
        go_roundg (l.length - q4)
        case measure => have := HK.out; omega
        case rel => exact ⟨q4, rfl, HQ4.out, HR.out, HR2.out, HB4.out⟩
      · have e37 : ¬ c.toNat = 37 := fun e => h37 (UInt8.toNat_inj.1 (e.trans rfl))
        rw [if_neg e37, decide_eq_false e37] at HT
        have HE := Lib.hid (show l.drop q2 = skp false s0 by rw [HSK.out, hs, skp_stop (head_not (by rw [← hs]; exact hdw)) h37])
        clear hs hs1 hst hdw hc e37 h37
        go_wp2_with fail
        refine HT.out.mono ?_; rintro e w2 ⟨rfl, hst2, hb2⟩
        go_wp2_with fail
        go_end0
        exact ⟨q2, by rw [HE.out, HS0.out], rfl, hst2, HB2.out.trans hb2⟩
end Go.Proofs.Ytaebpjcigajolaa
