/-
  The walk of the law ScanStructure.
-/
import Derived.Test.YtaebpjcigajolaaScanRStruct
namespace Go.Proofs.Ytaebpjcigajolaa
open Go.RowKit
open Sc
/-- strings that can be read at a -/
def RdS (w : World) (a : Option Addr) (L : List (List UInt8)) : Prop :=
  ∀ i t, L[i]? = some t → ∃ b off, a = some ⟨b, off, none⟩ ∧ w.cell? ⟨b, off + i, none⟩ = some (.string ⟨t.toArray⟩)
theorem own_rdS {w : World} {B : Nat} {v : Value} {L : List (List UInt8)} (h : w.ownsRow B 9 1 v L.length (L.map sv)) : ∃ a c, v = .slice a L.length c ∧ RdS w a L := by
  rcases h.2 with ⟨rfl, h0⟩ | ⟨g, cap, cur, rfl, _, hh, hc, _, _, hcur⟩
  · have : L = [] := List.eq_nil_of_length_eq_zero h0
    subst this
    exact ⟨none, 0, rfl, fun i c hc => by simp at hc⟩
  · refine ⟨some ⟨g, 0, none⟩, cap, rfl, fun k z hz => ⟨g, 0, rfl, ?_⟩⟩
    have hc := h.cells (g := g) rfl k (sv z) (by rw [List.getElem?_map, hz]; rfl)
    by_cases hk : k = 0
    · subst hk; simpa [Addr.add, sv] using hc
    · simpa [Addr.add, hk, sv] using hc
theorem texts_same {w : World} {a1 a2 : Option Addr} {c1 c2 : Nat} {L : List (List UInt8)} (hL : L.length ≤ 100000) (h1 : RdS w a1 L) (h2 : RdS w a2 L) :
    Calls Try.prog 13 #[.slice a1 L.length c1, .slice a2 L.length c2] w fun e w' => e = .returned (.bool true) ∧ Below w.heap.size w w' := by
  have H1 := Lib.hid h1
  have H2 := Lib.hid h2
  clear h1 h2
  go_enter Try.func13, Try.ntmps13
  go_wp2_with fail
  go_loopw [5] (fun i wr => ∃ k j : Nat, i = .int .i64 k ∧ k ≤ L.length ∧ wr = w.drewN j) (fun i _ => L.length - (intOf i).toNat)
  case atStart => exact ⟨0, 0, rfl, Nat.zero_le _, rfl⟩
  case round =>
    obtain ⟨k, j, rfl, hk, rfl⟩ := hrel
    by_cases hlt : k < L.length
    · have ht : L[k]? = some L[k] := List.getElem?_eq_getElem hlt
      obtain ⟨t, htt⟩ : ∃ t, L[k] = t := ⟨_, rfl⟩
      rw [htt] at ht
      obtain ⟨b1, o1, rfl, hc1⟩ := H1.out k t ht
      obtain ⟨b2, o2, rfl, hc2⟩ := H2.out k t ht
      clear htt ht
      go_wp2_with fail
      go_quiet (fail)
      go_wp2_with fail
      go_roundw
      case rel => exact ⟨k + 1, _, by go_num, by omega, rfl⟩
      case measure => simp [intOf]; omega
    · go_wp2_with fail
      go_ret
      exact ⟨rfl, belowDrewN _ _ _⟩
theorem RdB.mono {w : World} {N M : Nat} {a : Option Addr} {l : List UInt8} (h : RdB w N a l) (hN : N ≤ M) : RdB w M a l := fun i c hc => by
  obtain ⟨b, off, e, hb, hcell⟩ := h i c hc
  exact ⟨b, off, e, by omega, hcell⟩
theorem own_below {w w' : World} {B : Nat} {t : TypeId} {v : Value} {n : Nat} {xs : List Value} (h : w.ownsRow B t 1 v n xs) (hb : Below w.heap.size w w') : w'.ownsRow B t 1 v n xs :=
  h.kept (row := none) ⟨hb.os, hb.tape, hb.output, hb.size, fun k hk _ => hb.block k hk⟩ (by cases v.ownBlock <;> simp)
theorem strc_len (k : Nat) : ∀ l : List UInt8, l.length ≤ k → (strc l).length ≤ l.length := by
  induction k with
  | zero => intro l h; have : l = [] := List.eq_nil_of_length_eq_zero (by omega); subst this; rw [strc_nil]; simp
  | succ k ih =>
    intro l h
    by_cases h0 : l = []
    · subst h0; rw [strc_nil]; simp
    · have hl : 0 < l.length := by
        rcases l with _ | ⟨c, s⟩
        · exact absurd rfl h0
        · simp
      rw [strc_step, List.length_append]
      have hd := dw_len nl l
      have h1 : (piece (l.takeWhile nl)).length ≤ 1 ∧ (2 ≤ (l.takeWhile nl).length ∨ (piece (l.takeWhile nl)).length = 0) := by
        cases hs : isS (l.takeWhile nl) with
        | true => obtain ⟨e, h2⟩ := piece_yes hs; rw [e]; exact ⟨by simp, .inl h2⟩
        | false => rw [piece_no hs]; simp
      have h2 : ((l.dropWhile nl).drop 1).length ≤ k := by rw [List.length_drop]; omega
      have := ih _ h2
      rw [List.length_drop] at this
      omega
set_option maxRecDepth 100000 in
theorem lawScanStructure (ad : Option Addr) (c : Nat) (l : List UInt8) (w : World) (hin : InRow w ad l c) (hm : l.length ≤ maxLen) :
    Calls Try.prog 5 #[.slice ad l.length c] w fun e w' => e = .returned (.bool true) ∧ Below w.heap.size w w' := by
  unfold maxLen at hm
  by_cases hl : l.length ≤ 20000
  · have hd : ¬ 20000 < l.length := by omega
    have HIN := Lib.hid hin
    clear hin
    go_enter Try.func5, Try.ntmps5
    go_wp2_with fail
    refine (answers_any _).mono ?_; rintro e w1 ⟨rfl, hb1⟩
    have hin1 := HIN.out.below hb1
    obtain ⟨a2, c2, w2, hr, hb2, hc2, hrd2, hs2, _⟩ := copied hin1 (by omega) 22
    have HR := Lib.hid hr
    have HB2 := Lib.hid (hb1.trans (hb2.mono hb1.size))
    have HIN2 := Lib.hid (hin1.below hb2)
    have HRD2 := Lib.hid hrd2
    clear hb1 hin1 hr hb2 hrd2
    go_wp2_with (at_builtin; refine wpList_append_run rfl (.tmp 9) (.tmp 10) 22 22 (.slice a2 l.length c2) rfl rfl _ _ rfl rfl HR.out ?_)
    refine (structure_at HRD2.out hc2 hl).mono ?_
    rintro e w3 ⟨v3, rfl, ho3, hb3⟩
    obtain ⟨a3, c3, rfl, hrd3⟩ := own_rdS ho3
    have HO3 := Lib.hid ho3
    have HB3 := Lib.hid (HB2.out.trans (hb3.mono HB2.out.size))
    have HIN3 := Lib.hid (HIN2.out.below hb3)
    clear ho3 hrd3 hb3
    go_wp2_with fail
    refine (refStructure_at HIN3.out.rd HIN3.out.1 hl).mono ?_
    rintro e w4 ⟨v4, rfl, ho4, hb4⟩
    obtain ⟨a4, c4, rfl, hrd4⟩ := own_rdS ho4
    obtain ⟨a5, c5, e5, hrd5⟩ := own_rdS (own_below HO3.out hb4)
    cases e5
    have HRD4 := Lib.hid hrd4
    have HRD5 := Lib.hid hrd5
    have HB4 := Lib.hid (HB3.out.trans (hb4.mono HB3.out.size))
    have hsl := strc_len _ l (Nat.le_refl _)
    clear ho4 hrd4 hrd5 hb4
    go_wp2_with fail
    refine (texts_same (by omega) HRD5.out HRD4.out).mono ?_
    rintro e w5 ⟨rfl, hb5⟩
    have HB5 := Lib.hid (HB4.out.trans (hb5.mono HB4.out.size))
    clear hb5
    go_wp2_with fail
    go_ret
    exact ⟨rfl, HB5.out⟩
  · have hd : 20000 < l.length := by omega
    go_enter Try.func5, Try.ntmps5
    go_wp2_with fail
    refine (answers_any _).mono ?_; rintro e w1 ⟨rfl, hb1⟩
    go_wp2_with fail
    go_ret
    exact ⟨rfl, hb1⟩
end Go.Proofs.Ytaebpjcigajolaa
