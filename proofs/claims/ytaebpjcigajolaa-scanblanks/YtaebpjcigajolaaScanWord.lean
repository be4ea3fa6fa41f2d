/-
  A word (a number or a name), and whatever token begins at a place, by contracts; which number a word is comes in as what the numbers' own function answers.
-/
import Derived.Test.YtaebpjcigajolaaScanNext
namespace Go.Proofs.Ytaebpjcigajolaa
open Go.RowKit
open Sc
/-- what the numbers' own function answers of words, from world w on -/
def TkOk (R : Nat) (w : World) (tk : List UInt8 → Int × Int × Bool × Int) : Prop :=
  ∀ (s : List UInt8) (w' : World), s.length ≤ 127 → Fr R w w' → Calls Try.prog 51 #[.string ⟨s.toArray⟩] w' fun e w'' =>
    e = .returned (.tuple #[.agg #[.int .i64 (tk s).1, .int .i64 (tk s).2.1, .string ⟨#[]⟩], .bool (tk s).2.2.1, .int .i64 (tk s).2.2.2]) ∧ Below w'.heap.size w' w''
theorem TkOk.later {R : Nat} {w w' : World} {tk : List UInt8 → Int × Int × Bool × Int} (h : TkOk R w tk) (hf : Fr R w w') : TkOk R w' tk := fun s w'' hs hb => h s w'' hs (hf.trans hb)
theorem Fr.ofBelow {R : Nat} {w w' : World} (h : Below w.heap.size w w') : Fr R w w' := ⟨h.os, h.tape, h.output, h.size, fun k hk _ _ => h.block k hk⟩
theorem St.below {w w' : World} {N R cap p : Nat} {ba : Option Addr} {l tx : List UInt8} (h : St w N R ba cap l p tx) (hb : Below w.heap.size w w') : St w' N R ba cap l p tx :=
  h.kept (hb.block R h.lt) (fun v n xs hv => hv.kept (row := none) ⟨hb.os, hb.tape, hb.output, hb.size, fun k hk _ => hb.block k hk⟩ (by cases v.ownBlock <;> simp)) (hb.mono (by have := h.ge; have := h.lt; omega))
theorem word_at {w : World} {N R cap p : Nat} {ba : Option Addr} {l tx : List UInt8} (h : St w N R ba cap l p tx) (hl : l.length ≤ 65535) {tk : List UInt8 → Int × Int × Bool × Int} (htk : TkOk R w tk) :
    Calls Try.prog 32 #[.pointer (some ⟨R, 0, none⟩)] w (OutO N R ba cap l (wrd tk (l.drop p)) w) := by
  have hRw := h.lt
  have HC := Lib.hid (name_at (h.alloc (tokB 0 0 ⟨#[]⟩)) hl)
  have HTk := Lib.hid htk
  clear h htk
  go_enter Try.func32, Try.ntmps32
  go_wp2_with fail
  refine HC.out.mono ?_
  intro e w1 hn
  unfold NamO at hn
  by_cases h127 : 127 < ((l.drop p).takeWhile regular).length
  · rw [if_pos h127] at hn
    obtain ⟨rfl, hb2⟩ := hn
    have HN := Lib.hid (show wrd tk (l.drop p) = .err 9 by unfold wrd; rw [if_pos h127])
    have HB2 := Lib.hid hb2
    clear h127 hb2
    unfold gaveUp
    go_wp2_with fail
    exact ⟨rfl, outO_err HN.out ⟨rfl, ((Fr.refl _ _).alloc _).trans HB2.out⟩⟩
  · rw [if_neg h127] at hn
    obtain ⟨q, hq, rfl, hst, hb⟩ := hn
    obtain ⟨a, ha⟩ : ∃ a, (l.drop p).takeWhile regular = a := ⟨_, rfl⟩
    have hw : wrd tk (l.drop p) = if (tk a).2.2.2 ≠ 0 then .err (tk a).2.2.2 else if (tk a).2.2.1 = false then .tok 3 0 a (l.drop q) else .tok (tk a).1 (tk a).2.1 [] (l.drop q) := by
      unfold wrd; rw [if_neg h127, ha, hq]
    have hcall := HTk.out a w1 (by rw [← ha]; omega) (((Fr.refl _ _).alloc _).trans hb)
    rw [ha]
    obtain ⟨r, hr⟩ : ∃ r, tk a = r := ⟨_, rfl⟩
    rw [hr] at hcall hw
    obtain ⟨k, n, o, x⟩ := r
    simp only at hcall hw
    have HW := Lib.hid hw
    have HCall := Lib.hid hcall
    have HQ := Lib.hid hst
    have HB := Lib.hid (((Fr.refl _ _).alloc (tokB 0 0 ⟨#[]⟩)).trans hb)
    have HT1 := Lib.hid (hb.tokB (T := w.heap.size) (by omega) (tok_new _ _ _ _))
    have hs1 : w.heap.size < w1.heap.size := by have := hb.size; simp at this; omega
    clear hcall hst hb hw hr h127 ha hq
    go_wp2_with fail
    refine HCall.out.mono ?_
    rintro e w2 ⟨rfl, hb2⟩
    have HQ2 := Lib.hid (HQ.out.below hb2)
    have HB2 := Lib.hid (HB.out.trans (Fr.ofBelow hb2))
    have HT2 := Lib.hid ((Fr.ofBelow (R := R) hb2).tokB (by omega) HT1.out)
    have hs2 := hb2.size
    clear hb2
    by_cases hx : x = 0
    · subst hx
      cases o with
      | false =>
        have hT3 := ((Fr.refl R w2).alloc (tokB k n ⟨#[]⟩)).tokB (by omega) HT2.out
        obtain ⟨t0, t1, t2, g0, g1, g2⟩ := tok_c hT3
        have HT3 := Lib.hid hT3
        unfold tokB at t0 t1 t2 g0 g1 g2
        clear hT3
        go_wp2_with fail
        refine tok_end Try.results32 HT3.out rfl (outO_tok (by rw [HW.out]; rfl) rfl ⟨rfl, (HQ2.out.alloc _).tok HT3.out (by omega) _ _ _, (HB2.out.alloc _).tok (Nat.le_refl _) _ _ _⟩)
      | true =>
        have hT3 := ((Fr.refl R w2).alloc (tokB k n ⟨#[]⟩)).tokB (by omega) HT2.out
        obtain ⟨t0, t1, t2, g0, g1, g2⟩ := tok_c hT3
        have HT3 := Lib.hid hT3
        unfold tokB at t0 t1 t2 g0 g1 g2
        clear hT3
        go_wp2_with fail
        refine tok_end Try.results32 HT3.out rfl (outO_tok (by rw [HW.out]; rfl) rfl ⟨rfl, (HQ2.out.alloc _).tok HT3.out (by omega) _ _ _, (HB2.out.alloc _).tok (Nat.le_refl _) _ _ _⟩)
    · rw [if_pos hx] at HW
      have hx0 : (x != 0) = true := by simp [hx]
      have HX := Lib.hid hx
      clear hx
      go_wp2_with fail
      refine (giveUp_at _ _).mono ?_; rintro e w3 ⟨rfl, rfl⟩
      unfold gaveUp
      go_wp2_with fail
      exact ⟨rfl, outO_err HW.out ⟨rfl, HB2.out.alloc _⟩⟩
end Go.Proofs.Ytaebpjcigajolaa
