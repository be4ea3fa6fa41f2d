/-
  A string in round brackets: digits behind a backslash, whatever else stands behind it, and the string as a whole, by contracts.
-/
import Derived.Test.YtaebpjcigajolaaScanPut
namespace Go.Proofs.Ytaebpjcigajolaa
open Go.RowKit
open Sc
namespace Sc
theorem sub48 {c : UInt8} (h : 48 ≤ c.toNat) : (c - 48).toNat = c.toNat - 48 := by
  rw [UInt8.toNat_sub_of_le _ _ (by rw [UInt8.le_iff_toNat_le]; exact h)]; rfl
theorem oct_nil (k : Nat) (n : UInt8) : oct k n [] = (n, []) := by cases k <;> rfl
theorem oct_stop {k : Nat} {n c : UInt8} {s : List UInt8} (h : isOct c = false) : oct k n (c :: s) = (n, c :: s) := by
  cases k with
  | zero => rfl
  | succ k => rw [oct, if_neg (by simp [h])]
theorem oct_step {k : Nat} {n c : UInt8} {s : List UInt8} (h : isOct c = true) : oct (k + 1) n (c :: s) = oct k (n * 8 + (c - 48)) s := by rw [oct, if_pos h]
/-- three bits more -/
theorem or3 : ∀ (n : Fin 256) (d : Fin 8), bits .or .u8 ((n.val : Int) * 8 % 256) (d.val : Int) = (((n.val * 8 + d.val) % 256 : Nat) : Int) := by decide +kernel
theorem or8 (n x : UInt8) (h1 : 48 ≤ x.toNat) (h2 : x.toNat ≤ 55) : bits .or .u8 ((n.toNat : Int) * 8 % 256) ((x.toNat : Int) - 48) = ((n * 8 + (x - 48)).toNat : Int) := by
  have h := or3 ⟨n.toNat, UInt8.toNat_lt _⟩ ⟨x.toNat - 48, by omega⟩
  have e : ((x.toNat - 48 : Nat) : Int) = (x.toNat : Int) - 48 := by omega
  simp only [e] at h
  rw [h, UInt8.toNat_add, UInt8.toNat_mul, sub48 h1]
  have : (8 : UInt8).toNat = 8 := rfl
  rw [this]
  omega
end Sc
def OctRel (N R : Nat) (ba : Option Addr) (cap : Nat) (l tx : List UInt8) (r : UInt8 × List UInt8) (w : World) (k : Nat) (v i : Value) (wr : World) : Prop :=
  ∃ (q : Nat) (n : UInt8), k ≤ 2 ∧ v = .int .u8 n.toNat ∧ i = .int .i64 ((2 - k : Nat) : Int) ∧ St wr N R ba cap l q tx ∧ oct k n (l.drop q) = r ∧ Fr R w wr
theorem octal_at {w : World} {N R cap p : Nat} {ba : Option Addr} {l tx : List UInt8} (h : St w N R ba cap l p tx) (hl : l.length ≤ 100000) (c : UInt8) (hc48 : 48 ≤ c.toNat) :
    Calls Try.prog 63 #[.pointer (some ⟨R, 0, none⟩), .int .u8 c.toNat] w fun e w' => ∃ q, l.drop q = (oct 2 (c - 48) (l.drop p)).2 ∧ e = .returned (.int .u8 (oct 2 (c - 48) (l.drop p)).1.toNat) ∧ St w' N R ba cap l q tx ∧ Fr R w w' := by
  have HS := Lib.hid h
  obtain ⟨r, hr⟩ : ∃ r, oct 2 (c - 48) (l.drop p) = r := ⟨_, rfl⟩
  rw [hr]
  have HR := Lib.hid hr
  have h48 := sub48 hc48
  have hlt : c.toNat < 256 := UInt8.toNat_lt _
  clear h hr
  go_enter Try.func63, Try.ntmps63
  go_wp2_with fail
  go_loopg [5, 8] 2 (fun k v i wr => OctRel N R ba cap l tx r w k v i wr)
  case atStart =>
    refine ⟨p, c - 48, by omega, ?_, rfl, HS.out, HR.out, Fr.refl _ _⟩
    rw [h48]; congr 1; omega
  case round =>
    obtain ⟨q, n, hk, rfl, rfl, hst, ho, hb⟩ := hrel
    have c0 := hst.c0
    have c1 := hst.c1
    have f1 := hst.fz 1
    have hq := hst.le
    have HQ := Lib.hid hst
    have HB := Lib.hid hb
    have HA := Lib.hid (atEnd_drew hst)
    clear hb
    cases gk with
    | zero =>
      have HO := Lib.hid ho
      clear ho
      go_wp2_with fail
      go_ret
      refine ⟨q, ?_, ?_, HQ.out, HB.out⟩
      · have := HO.out; rw [← this]; rfl
      · have := HO.out; rw [← this]; rfl
    | succ k =>
      have hk2 : decide (((2 - (k + 1) : Nat) : Int) < 2) = true := decide_eq_true (by omega)
      cases hs : l.drop q with
      | nil =>
        have hql : q = l.length := drop_end hs hst.le
        rw [decide_eq_true hql] at HA
        rw [hs, oct_nil] at ho
        have HO := Lib.hid ho
        have HE := Lib.hid hs
        clear ho hs hst hql
        go_wp2_with fail
        go_quiet (first | (go_at_call 30; exact Calls.quiet_of (HA.out _)))
        go_wp2_with fail
        go_ret
        refine ⟨q, ?_, ?_, HQ.out.drewN _, HB.out.drewN _⟩
        · have := HO.out; rw [← this, HE.out]
        · have := HO.out; rw [← this]; rfl
      | cons x s =>
        obtain ⟨hc, hs1, hlt1⟩ := drop_at hs
        rw [decide_eq_false (by omega)] at HA
        obtain ⟨b, off, rfl, hbN, hbR, hcell⟩ := hst.byte hc
        have HP := Lib.hid (fun n => isOctal_at x (wr.drewN n))
        unfold Says at HP
        cases hpr : isOct x with
        | false =>
          rw [hpr] at HP
          rw [hs, oct_stop hpr] at ho
          have HO := Lib.hid ho
          have HE := Lib.hid hs
          clear ho hs hs1 hst hc hpr
          go_wp2_with fail
          go_quiet (first | (go_at_call 30; exact Calls.quiet_of (HA.out _)) | (go_at_call 72; exact Calls.quiet_of_same (HP.out _)))
          go_wp2_with fail
          go_ret
          refine ⟨q, ?_, ?_, HQ.out.drewN _, HB.out.drewN _⟩
          · have := HO.out; rw [← this, HE.out]
          · have := HO.out; rw [← this]; rfl
        | true =>
          rw [hpr] at HP
          rw [hs, oct_step hpr, ← hs1] at ho
          have HO := Lib.hid ho
          have HC := Lib.hid hc
          have hx48 : 48 ≤ x.toNat ∧ x.toNat ≤ 55 := by rw [isOct_nat] at hpr; exact of_decide_eq_true hpr
          clear ho hs hs1 hst hc hpr
          have hx1 := hx48.1
          have hx2 := hx48.2
          clear hx48
          go_wp2_with fail
          go_quiet (first | (go_at_call 30; exact Calls.quiet_of (HA.out _)) | (go_at_call 72; exact Calls.quiet_of_same (HP.out _)))
          go_wp2_with fail
          refine (take_yes (HQ.out.drewN _) hl HC.out).mono ?_
          rintro e w2 ⟨rfl, hst2, hb2⟩
          have HQ2 := Lib.hid hst2
          have HB2 := Lib.hid hb2
          clear hst2 hb2
          unfold bv
          go_wp2_with fail
          go_roundg k
          case measure => omega
          case rel =>
            refine ⟨q + 1, n * 8 + (x - 48), by omega, ?_, ?_, HQ2.out, HO.out, (HB.out.drewN _).trans HB2.out⟩
            · rw [or8 n x hx1 hx2]
            · congr 1; omega
/-- behind a backslash -/
def Esc (N R : Nat) (ba : Option Addr) (cap : Nat) (l : List UInt8) (p : Nat) (tx : List UInt8) (w : World) (e : Ending) (w' : World) : Prop :=
  match esc (l.drop p) with
  | none => Gave R 14 w e w'
  | some x => ∃ q, l.drop q = x.2 ∧ Went N R ba cap l q (tx ++ x.1) (.tuple #[]) w e w'
theorem esc_none {N R : Nat} {ba : Option Addr} {cap : Nat} {l : List UInt8} {p : Nat} {tx : List UInt8} {w w' : World} {e : Ending} (h : esc (l.drop p) = none) (hg : Gave R 14 w e w') : Esc N R ba cap l p tx w e w' := by
  unfold Esc; rw [h]; exact hg
theorem esc_some {N R : Nat} {ba : Option Addr} {cap : Nat} {l : List UInt8} {p q : Nat} {tx y r : List UInt8} {w w' : World} {e : Ending} (h : esc (l.drop p) = some (y, r)) (hq : l.drop q = r) (hg : Went N R ba cap l q (tx ++ y) (.tuple #[]) w e w') : Esc N R ba cap l p tx w e w' := by
  unfold Esc; rw [h]; exact ⟨q, hq, hg⟩
theorem beqF {c : UInt8} {k : Nat} (h : c.toNat ≠ k) : ((c.toNat : Int) == (k : Int)) = false := by rw [eqb]; exact decide_eq_false h
theorem beqT {c : UInt8} {k : Nat} (h : c.toNat = k) : ((c.toNat : Int) == (k : Int)) = true := by rw [eqb]; exact decide_eq_true h
theorem takeIf_lf {w : World} {N R cap p : Nat} {ba : Option Addr} {l tx : List UInt8} (h : St w N R ba cap l p tx) (hl : l.length ≤ 100000) :
    Calls Try.prog 35 #[.pointer (some ⟨R, 0, none⟩), .int .u8 10] w fun e w' => ∃ b q, l.drop q = lf (l.drop p) ∧ e = .returned (.bool b) ∧ St w' N R ba cap l q tx ∧ Fr R w w' := by
  cases hs : l.drop p with
  | nil => exact (takeIf_end h (drop_end hs h.le) 10).mono fun e w' ⟨a, b, c⟩ => ⟨false, p, hs, a, b, c⟩
  | cons x s =>
    obtain ⟨hc, hs1, hlt⟩ := drop_at hs
    refine (takeIf_at h hl hc 10).mono fun e w' ⟨a, b, c⟩ => ⟨_, _, ?_, a, b, c⟩
    rw [lf]
    by_cases hx : x = 10
    · subst hx; rw [if_pos rfl, if_pos (show (10 : UInt8).toNat = 10 from rfl)]; exact hs1
    · rw [if_neg hx, if_neg (show ¬ x.toNat = 10 from fun e => hx (UInt8.toNat_inj.1 (e.trans rfl)))]; exact hs
theorem escaped_at {w : World} {N R cap p : Nat} {ba : Option Addr} {l tx : List UInt8} (h : St w N R ba cap l p tx) (hl : l.length ≤ 100000) (ht : tx.length < 65535) :
    Calls Try.prog 53 #[.pointer (some ⟨R, 0, none⟩)] w (Esc N R ba cap l p tx w) := by
  cases hs : l.drop p with
  | nil =>
    have HT := Lib.hid (take_no h (drop_end hs h.le))
    have HE := Lib.hid (fun w' (x : Fr R w w') => esc_none (N := N) (ba := ba) (cap := cap) (tx := tx) (p := p) (l := l) (by rw [hs]; rfl) (show Gave R 14 w (gaveUp 14) w' from ⟨rfl, x⟩))
    clear h hs
    go_enter Try.func53, Try.ntmps53
    go_wp2_with fail
    refine HT.out.mono ?_; rintro e w1 ⟨rfl, hb⟩
    have HB := Lib.hid hb
    clear hb
    unfold gaveUp
    go_wp2_with fail
    exact ⟨rfl, HE.out _ HB.out⟩
  | cons c s =>
    obtain ⟨hc, hs1, hlt⟩ := drop_at hs
    have HT := Lib.hid (take_yes h hl hc)
    have HES := Lib.hid (fun y r (e : esc (c :: s) = some (y, r)) => (show esc (l.drop p) = some (y, r) by rw [hs]; exact e))
    have HS1 := Lib.hid hs1
    clear hs hs1 hc
    by_cases h110 : c = 110
    · subst h110
      go_enter Try.func53, Try.ntmps53
      go_wp2_with fail
      refine HT.out.mono ?_; rintro e w1 ⟨rfl, hst, hb⟩
      have HQ := Lib.hid hst
      have HB := Lib.hid hb
      clear hst hb h
      unfold bv
      go_wp2_with (first | (go_at_call 54; refine (put_z HQ.out ht 10 10 rfl).mono ?_; rintro e w2 ⟨rfl, hst2, hb2⟩))
      all_goals go_end0
      exact esc_some (q := p + 1) (HES.out _ _ rfl) HS1.out ⟨rfl, by assumption, HB.out.trans (by assumption)⟩
    by_cases h114 : c = 114
    · subst h114
      go_enter Try.func53, Try.ntmps53
      go_wp2_with fail
      refine HT.out.mono ?_; rintro e w1 ⟨rfl, hst, hb⟩
      have HQ := Lib.hid hst
      have HB := Lib.hid hb
      clear hst hb h
      unfold bv
      go_wp2_with (first | (go_at_call 54; refine (put_z HQ.out ht 13 13 rfl).mono ?_; rintro e w2 ⟨rfl, hst2, hb2⟩))
      all_goals go_end0
      exact esc_some (q := p + 1) (HES.out _ _ rfl) HS1.out ⟨rfl, by assumption, HB.out.trans (by assumption)⟩
    by_cases h116 : c = 116
    · subst h116
      go_enter Try.func53, Try.ntmps53
      go_wp2_with fail
      refine HT.out.mono ?_; rintro e w1 ⟨rfl, hst, hb⟩
      have HQ := Lib.hid hst
      have HB := Lib.hid hb
      clear hst hb h
      unfold bv
      go_wp2_with (first | (go_at_call 54; refine (put_z HQ.out ht 9 9 rfl).mono ?_; rintro e w2 ⟨rfl, hst2, hb2⟩))
      all_goals go_end0
      exact esc_some (q := p + 1) (HES.out _ _ rfl) HS1.out ⟨rfl, by assumption, HB.out.trans (by assumption)⟩
    by_cases h98 : c = 98
    · subst h98
      go_enter Try.func53, Try.ntmps53
      go_wp2_with fail
      refine HT.out.mono ?_; rintro e w1 ⟨rfl, hst, hb⟩
      have HQ := Lib.hid hst
      have HB := Lib.hid hb
      clear hst hb h
      unfold bv
      go_wp2_with (first | (go_at_call 54; refine (put_z HQ.out ht 8 8 rfl).mono ?_; rintro e w2 ⟨rfl, hst2, hb2⟩))
      all_goals go_end0
      exact esc_some (q := p + 1) (HES.out _ _ rfl) HS1.out ⟨rfl, by assumption, HB.out.trans (by assumption)⟩
    by_cases h102 : c = 102
    · subst h102
      go_enter Try.func53, Try.ntmps53
      go_wp2_with fail
      refine HT.out.mono ?_; rintro e w1 ⟨rfl, hst, hb⟩
      have HQ := Lib.hid hst
      have HB := Lib.hid hb
      clear hst hb h
      unfold bv
      go_wp2_with (first | (go_at_call 54; refine (put_z HQ.out ht 12 12 rfl).mono ?_; rintro e w2 ⟨rfl, hst2, hb2⟩))
      all_goals go_end0
      exact esc_some (q := p + 1) (HES.out _ _ rfl) HS1.out ⟨rfl, by assumption, HB.out.trans (by assumption)⟩
    by_cases h10 : c = 10
    · subst h10
      go_enter Try.func53, Try.ntmps53
      go_wp2_with fail
      refine HT.out.mono ?_; rintro e w1 ⟨rfl, hst, hb⟩
      have HQ := Lib.hid hst
      have HB := Lib.hid hb
      clear hst hb h
      unfold bv
      go_wp2_with fail
      all_goals go_end0
      exact esc_some (q := p + 1) (HES.out _ _ rfl) HS1.out ⟨rfl, by rw [List.append_nil]; exact HQ.out, HB.out⟩
    by_cases h13 : c = 13
    · subst h13
      go_enter Try.func53, Try.ntmps53
      go_wp2_with fail
      refine HT.out.mono ?_; rintro e w1 ⟨rfl, hst, hb⟩
      have HQ := Lib.hid hst
      have HB := Lib.hid hb
      clear hst hb h
      unfold bv
      go_wp2_with fail
      refine (takeIf_lf HQ.out hl).mono ?_; rintro e w2 ⟨b, q, hq, rfl, hst2, hb2⟩
      go_wp2_with fail
      all_goals go_end0
      exact esc_some (q := q) (HES.out _ _ rfl) (by rw [hq, HS1.out]) ⟨rfl, by rw [List.append_nil]; exact hst2, HB.out.trans hb2⟩
    have n0 : ∀ k : UInt8, c ≠ k → ((c.toNat : Int) == (k.toNat : Int)) = false := fun k hk => beqF (fun e => hk (UInt8.toNat_inj.1 e))
    have b110 : ((c.toNat : Int) == 110) = false := n0 110 h110
    have b114 : ((c.toNat : Int) == 114) = false := n0 114 h114
    have b116 : ((c.toNat : Int) == 116) = false := n0 116 h116
    have b98 : ((c.toNat : Int) == 98) = false := n0 98 h98
    have b102 : ((c.toNat : Int) == 102) = false := n0 102 h102
    have b10 : ((c.toNat : Int) == 10) = false := n0 10 h10
    have b13 : ((c.toNat : Int) == 13) = false := n0 13 h13
    have hes : esc (c :: s) = if isOct c then some ([(oct 2 (c - 48) s).1], (oct 2 (c - 48) s).2) else some ([c], s) := by
      rw [esc, if_neg h110, if_neg h114, if_neg h116, if_neg h98, if_neg h102, if_neg h10, if_neg h13]
    clear n0 h110 h114 h116 h98 h102 h10 h13
    cases ho : isOct c with
    | true =>
      rw [ho, if_pos rfl] at hes
      have h48 : 48 ≤ c.toNat ∧ c.toNat ≤ 55 := by rw [isOct_nat] at ho; exact of_decide_eq_true ho
      have H48 := Lib.hid h48
      have HX := Lib.hid (HES.out _ _ hes)
      clear hes ho h48
      go_enter Try.func53, Try.ntmps53
      go_wp2_with fail
      refine HT.out.mono ?_; rintro e w1 ⟨rfl, hst, hb⟩
      have HQ := Lib.hid hst
      have HB := Lib.hid hb
      clear hst hb h
      unfold bv
      go_wp2_with fail
      all_goals try (exfalso; have := H48.out; simp only [beq_eq_false_iff_ne, ne_eq] at *; omega)
      all_goals (refine (octal_at HQ.out hl c H48.out.1).mono ?_; rintro e w2 ⟨q, hq, rfl, hst2, hb2⟩)
      all_goals have HQ2 := Lib.hid hst2
      all_goals have HB2 := Lib.hid hb2
      all_goals have HQQ := Lib.hid hq
      all_goals clear hst2 hb2 hq
      all_goals go_wp2_with (first | (go_at_call 54; refine (put_z HQ2.out ht _ _ rfl).mono ?_; rintro e w3 ⟨rfl, hst3, hb3⟩))
      all_goals go_end0
      all_goals (refine esc_some (q := q) HX.out (by rw [HQQ.out, HS1.out]) ⟨rfl, ?_, (HB.out.trans HB2.out).trans (by assumption)⟩; rw [← HS1.out]; assumption)
    | false =>
      rw [ho, if_neg (by decide)] at hes
      have h48 : ¬ (48 ≤ c.toNat ∧ c.toNat ≤ 55) := by rw [isOct_nat] at ho; exact of_decide_eq_false ho
      have HX := Lib.hid (HES.out _ _ hes)
      have b48 : ((c.toNat : Int) == 48) = false := beqF (k := 48) (by omega)
      have b49 : ((c.toNat : Int) == 49) = false := beqF (k := 49) (by omega)
      have b50 : ((c.toNat : Int) == 50) = false := beqF (k := 50) (by omega)
      have b51 : ((c.toNat : Int) == 51) = false := beqF (k := 51) (by omega)
      have b52 : ((c.toNat : Int) == 52) = false := beqF (k := 52) (by omega)
      have b53 : ((c.toNat : Int) == 53) = false := beqF (k := 53) (by omega)
      have b54 : ((c.toNat : Int) == 54) = false := beqF (k := 54) (by omega)
      have b55 : ((c.toNat : Int) == 55) = false := beqF (k := 55) (by omega)
      clear hes ho h48
      go_enter Try.func53, Try.ntmps53
      go_wp2_with fail
      refine HT.out.mono ?_; rintro e w1 ⟨rfl, hst, hb⟩
      have HQ := Lib.hid hst
      have HB := Lib.hid hb
      clear hst hb h
      unfold bv
      go_wp2_with (first | (go_at_call 54; refine (put_z HQ.out ht _ c rfl).mono ?_; rintro e w2 ⟨rfl, hst2, hb2⟩))
      all_goals go_end0
      exact esc_some (q := p + 1) HX.out HS1.out ⟨rfl, by assumption, HB.out.trans (by assumption)⟩
end Go.Proofs.Ytaebpjcigajolaa
