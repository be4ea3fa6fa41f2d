/-
  A token, by contracts: names behind a slash, words, whatever begins at a place.
-/
import Derived.Test.YtaebpjcigajolaaScanTok
namespace Go.Proofs.Ytaebpjcigajolaa
open Go.RowKit
open Sc
/-- a token is answered, or given up -/
def OutO (N R : Nat) (ba : Option Addr) (cap : Nat) (l : List UInt8) (o : Out) (w : World) (e : Ending) (w' : World) : Prop :=
  match o with
  | .err x => Gave R x w e w'
  | .tok k n t r => ∃ q tx, l.drop q = r ∧ Went N R ba cap l q tx (tkV k n t) w e w'
section
variable {N R cap q : Nat} {ba : Option Addr} {l tx t r : List UInt8} {w w' : World} {e : Ending} {o : Out} {k n x : Int}
theorem outO_err (h : o = .err x) (hg : Gave R x w e w') : OutO N R ba cap l o w e w' := by subst h; exact hg
theorem outO_tok (h : o = .tok k n t r) (hq : l.drop q = r) (hg : Went N R ba cap l q tx (tkV k n t) w e w') : OutO N R ba cap l o w e w' := by subst h; exact ⟨q, tx, hq, hg⟩
end
/-- a result in the token's own block, at the end of a method -/
theorem tok_end {fn : Func} (hfn : fn.results = #[.cell 2 25]) {tmps : Array Value} {w2 : World} {T : Nat} {k0 n0 k n : Int} {t0 t : ByteArray} {Q : Ending → World → Prop} (hT : w2.heap[T]? = some (tokB k0 n0 t0)) (hp : tmps.getD 2 undef = .pointer (some ⟨T, 0, none⟩))
    (hq : Q (.returned (.agg #[.int .i64 k, .int .i64 n, .string t])) (tokSet w2 T k n t)) : bodyPost Try.prog fn Q Exit.ret { tmps := tmps, defers := [] } (tokSet w2 T k n t) := by
  obtain ⟨r0, r1, r2, _⟩ := tok_c (tokSet_at hT k n t)
  exact bodyPost_ret (results_tok1 hfn _ (tokSet w2 T k n t) T k n t hp r0 r1 r2) rfl hq
theorem slashed_at {w : World} {N R cap p : Nat} {ba : Option Addr} {l tx : List UInt8} (h : St w N R ba cap l p tx) (hl : l.length ≤ 65535) :
    Calls Try.prog 37 #[.pointer (some ⟨R, 0, none⟩)] w (OutO N R ba cap l (sla (l.drop p)) w) := by
  have hRw := h.lt
  have h1 : ∃ b q, sla (l.drop p) = nam (if b = true then 5 else 4) (l.drop q) ∧ Calls Try.prog 35 #[.pointer (some ⟨R, 0, none⟩), .int .u8 47] (w.alloc (tokB 0 0 ⟨#[]⟩)) (Went N R ba cap l q tx (.bool b) (w.alloc (tokB 0 0 ⟨#[]⟩))) := by
    cases hs : l.drop p with
    | nil => exact ⟨false, p, by rw [hs]; rfl, takeIf_end (h.alloc _) (drop_end hs h.le) 47⟩
    | cons c s =>
      obtain ⟨hc, hs1, hlt⟩ := drop_at hs
      have := takeIf_at (h.alloc (tokB 0 0 ⟨#[]⟩)) (by omega) hc 47
      by_cases h47 : c = 47
      · subst h47
        exact ⟨true, p + 1, by rw [hs1]; rfl, this⟩
      · have e47 : ¬ c.toNat = 47 := fun e => h47 (UInt8.toNat_inj.1 (e.trans rfl))
        rw [if_neg e47, decide_eq_false e47] at this
        exact ⟨false, p, by rw [hs, sla, if_neg h47]; rfl, this⟩
  obtain ⟨b, q, hsla, hcall⟩ := h1
  rw [hsla]
  have HC := Lib.hid hcall
  clear hsla hcall h
  cases b
  all_goals
    go_enter Try.func37, Try.ntmps37
    go_wp2_with fail
    refine HC.out.mono ?_; rintro e w1 ⟨rfl, hst, hb⟩
    have HQ := Lib.hid hst
    have HB := Lib.hid hb
    have HT1 := Lib.hid (hb.tokB (T := w.heap.size) (by omega) (tok_new _ _ _ _))
    clear hst hb
    go_wp2_with fail
    refine (name_at HQ.out hl).mono ?_
    intro e w2 hn
    unfold NamO at hn
    by_cases h127 : 127 < ((l.drop q).takeWhile regular).length
  · rw [if_pos h127] at hn
    obtain ⟨rfl, hb2⟩ := hn
    have HN := Lib.hid (show nam (if false = true then 5 else 4) (l.drop q) = .err 9 by unfold nam; rw [if_pos h127])
    have HB2 := Lib.hid hb2
    clear h127 hb2
    unfold gaveUp
    go_wp2_with fail
    exact ⟨rfl, outO_err HN.out ⟨rfl, (((Fr.refl _ _).alloc _).trans HB.out).trans HB2.out⟩⟩
  · rw [if_neg h127] at hn
    obtain ⟨q2, hq2, rfl, hst2, hb2⟩ := hn
    have HN := Lib.hid (show nam (if false = true then 5 else 4) (l.drop q) = .tok 4 0 ((l.drop q).takeWhile regular) ((l.drop q).dropWhile regular) by unfold nam; rw [if_neg h127]; rfl)
    have hT2 := hb2.tokB (by omega) HT1.out
    obtain ⟨t0, t1, t2, g0, g1, g2⟩ := tok_c hT2
    have HQ2 := Lib.hid hst2
    have HB2 := Lib.hid hb2
    have HD := Lib.hid hq2
    have HT2 := Lib.hid hT2
    clear h127 hb2 hst2 hq2 hT2
    go_wp2_with fail
    exact tok_end Try.results37 HT2.out rfl (outO_tok HN.out HD.out ⟨rfl, HQ2.out.tok HT2.out (by omega) _ _ _, ((((Fr.refl _ _).alloc _).trans HB.out).trans HB2.out).tok (Nat.le_refl _) _ _ _⟩)
  · rw [if_pos h127] at hn
    obtain ⟨rfl, hb2⟩ := hn
    have HN := Lib.hid (show nam (if true = true then 5 else 4) (l.drop q) = .err 9 by unfold nam; rw [if_pos h127])
    have HB2 := Lib.hid hb2
    clear h127 hb2
    unfold gaveUp
    go_wp2_with fail
    exact ⟨rfl, outO_err HN.out ⟨rfl, (((Fr.refl _ _).alloc _).trans HB.out).trans HB2.out⟩⟩
  · rw [if_neg h127] at hn
    obtain ⟨q2, hq2, rfl, hst2, hb2⟩ := hn
    have HN := Lib.hid (show nam (if true = true then 5 else 4) (l.drop q) = .tok 5 0 ((l.drop q).takeWhile regular) ((l.drop q).dropWhile regular) by unfold nam; rw [if_neg h127]; rfl)
    have hT2 := hb2.tokB (by omega) HT1.out
    obtain ⟨t0, t1, t2, g0, g1, g2⟩ := tok_c hT2
    have HQ2 := Lib.hid hst2
    have HB2 := Lib.hid hb2
    have HD := Lib.hid hq2
    have HT2 := Lib.hid hT2
    clear h127 hb2 hst2 hq2 hT2
    go_wp2_with fail
    exact tok_end Try.results37 HT2.out rfl (outO_tok HN.out HD.out ⟨rfl, HQ2.out.tok HT2.out (by omega) _ _ _, ((((Fr.refl _ _).alloc _).trans HB.out).trans HB2.out).tok (Nat.le_refl _) _ _ _⟩)
end Go.Proofs.Ytaebpjcigajolaa
