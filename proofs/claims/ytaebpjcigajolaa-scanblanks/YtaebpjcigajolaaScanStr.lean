/-
  A string in round brackets as a whole, by a contract.
-/
import Derived.Test.YtaebpjcigajolaaScanRnd
namespace Go.Proofs.Ytaebpjcigajolaa
open Go.RowKit
open Sc
/-- a token's block -/
def tokB (k n : Int) (t : ByteArray) : Obj := .cells #[.int .i64 k, .int .i64 n, .string t] 25
/-- a token stored into its block -/
def tokSet (w : World) (T : Nat) (k n : Int) (t : ByteArray) : World := ((w.setCell ⟨T, 0, none⟩ (.int .i64 k)).setCell ⟨T, 1, none⟩ (.int .i64 n)).setCell ⟨T, 2, none⟩ (.string t)
theorem tokSet_at {w : World} {T : Nat} {k0 n0 : Int} {t0 : ByteArray} (h : w.heap[T]? = some (tokB k0 n0 t0)) (k n : Int) (t : ByteArray) : (tokSet w T k n t).heap[T]? = some (tokB k n t) := by
  unfold tokB at h
  unfold tokB tokSet
  simp [World.setCell, Array.getElem?_modify, h]
theorem tokSet_other {w : World} {T : Nat} (k n : Int) (t : ByteArray) {j : Nat} (hj : j ≠ T) : (tokSet w T k n t).heap[j]? = w.heap[j]? := by
  unfold tokSet
  rw [Below.heap_setCell _ _ _ _ hj, Below.heap_setCell _ _ _ _ hj, Below.heap_setCell _ _ _ _ hj]
theorem tokSet_size (w : World) (T : Nat) (k n : Int) (t : ByteArray) : (tokSet w T k n t).heap.size = w.heap.size := by simp [tokSet, World.setCell]
theorem tok_c {w : World} {T : Nat} {k n : Int} {t : ByteArray} (h : w.heap[T]? = some (tokB k n t)) :
    w.cell? ⟨T, 0, none⟩ = some (.int .i64 k) ∧ w.cell? ⟨T, 1, none⟩ = some (.int .i64 n) ∧ w.cell? ⟨T, 2, none⟩ = some (.string t) ∧ w.frozen? ⟨T, 0, none⟩ = false ∧ w.frozen? ⟨T, 1, none⟩ = false ∧ w.frozen? ⟨T, 2, none⟩ = false := by
  unfold tokB at h
  simp [World.cell?, World.frozen?, h]
theorem tok_new (w : World) (k n : Int) (t : ByteArray) : (w.alloc (tokB k n t)).heap[w.heap.size]? = some (tokB k n t) := heap_alloc_new w _
theorem St.tok {w : World} {N R cap p T : Nat} {ba : Option Addr} {l tx : List UInt8} {k0 n0 : Int} {t0 : ByteArray} (h : St w N R ba cap l p tx) (hT : w.heap[T]? = some (tokB k0 n0 t0)) (hTR : R < T) (k n : Int) (t : ByteArray) :
    St (tokSet w T k n t) N R ba cap l p tx := by
  refine h.kept (tokSet_other _ _ _ (by omega)) (fun v m xs hv => ⟨hv.1, ?_⟩) ⟨rfl, rfl, rfl, Nat.le_of_eq (tokSet_size _ _ _ _ _).symm, fun j hj => tokSet_other _ _ _ (by have := h.ge; omega)⟩
  rcases hv.2 with hn | ⟨g, c, cur, rfl, hb, hg, rest⟩
  · exact .inl hn
  · refine .inr ⟨g, c, cur, rfl, hb, ?_, rest⟩
    rw [tokSet_other _ _ _ (fun e => by subst e; rw [hT] at hg; unfold tokB at hg; injection hg with hg; injection hg with _ hg; revert hg; decide)]
    exact hg
theorem Fr.tok {R : Nat} {a b : World} (h : Fr R a b) {T : Nat} (hT : a.heap.size ≤ T) (k n : Int) (t : ByteArray) : Fr R a (tokSet b T k n t) :=
  ((h.own (p := ⟨T, 0, none⟩) hT _).own (p := ⟨T, 1, none⟩) hT _).own (p := ⟨T, 2, none⟩) hT _
theorem Fr.tokB {R : Nat} {a b : World} (h : Fr R a b) {T : Nat} (hT : T ≠ R) {k n : Int} {t : ByteArray} (hb : a.heap[T]? = some (tokB k n t)) : b.heap[T]? = some (tokB k n t) := h.keeps hT hb (by decide)
/-- a string is answered, or given up -/
def StrO (N R : Nat) (ba : Option Addr) (cap : Nat) (l : List UInt8) (o : Option (List UInt8 × List UInt8)) (w : World) (e : Ending) (w' : World) : Prop :=
  match o with
  | none => Gave R 14 w e w'
  | some x => ∃ q tx, l.drop q = x.2 ∧ Went N R ba cap l q tx (tkV 6 0 x.1) w e w'
theorem strO_none {N R : Nat} {ba : Option Addr} {cap : Nat} {l : List UInt8} {o : Option (List UInt8 × List UInt8)} {w w' : World} {e : Ending} (h : o = none) (hg : Gave R 14 w e w') : StrO N R ba cap l o w e w' := by
  subst h; exact hg
theorem strO_some {N R q : Nat} {ba : Option Addr} {cap : Nat} {l t r tx : List UInt8} {o : Option (List UInt8 × List UInt8)} {w w' : World} {e : Ending} (h : o = some (t, r)) (hq : l.drop q = r) (hg : Went N R ba cap l q tx (tkV 6 0 t) w e w') : StrO N R ba cap l o w e w' := by
  subst h; exact ⟨q, tx, hq, hg⟩
theorem lf_at {l : List UInt8} {q q2 : Nat} (h : l.drop q2 = lf (l.drop (q + 1))) (h2 : q2 ≤ l.length) (h1 : q + 1 ≤ l.length) : q + 1 ≤ q2 ∧ q2 ≤ l.length := by
  have e := congrArg List.length h
  have := lf_len (l.drop (q + 1))
  rw [List.length_drop] at e this
  omega
def PlainRel (N R : Nat) (ba : Option Addr) (cap : Nat) (l s0 : List UInt8) (w : World) (T k : Nat) (v : Value) (wr : World) : Prop :=
  ∃ (q d : Nat) (tx : List UInt8), v = .int .i64 d ∧ k = l.length - q ∧ 1 ≤ d ∧ d ≤ q + 1 ∧ tx.length ≤ q ∧ St wr N R ba cap l q tx ∧ RndAt s0 tx d (l.drop q) ∧ Fr R w wr ∧ wr.heap[T]? = some (tokB 0 0 ⟨#[]⟩)
theorem plainString_at {w : World} {N R cap p : Nat} {ba : Option Addr} {l : List UInt8} (h : St w N R ba cap l p []) (hl : l.length ≤ 65535) :
    Calls Try.prog 34 #[.pointer (some ⟨R, 0, none⟩)] w (StrO N R ba cap l (rnd 1 (l.drop p)) w) := by
  have HS := Lib.hid (h.alloc (tokB 0 0 ⟨#[]⟩))
  have hRw := h.lt
  obtain ⟨s0, hs0⟩ : ∃ s, l.drop p = s := ⟨_, rfl⟩
  rw [hs0]
  have HS0 := Lib.hid hs0
  clear h hs0
  go_enter Try.func34, Try.ntmps34
  go_wp2_with fail
  go_loopg [3] (l.length - p) (fun k v wr => PlainRel N R ba cap l s0 w w.heap.size k v wr)
  case atStart => exact ⟨p, 1, [], rfl, rfl, by omega, by omega, by simp, HS.out, by rw [HS0.out]; exact RndAt.start _, (Fr.refl _ _).alloc _, tok_new _ _ _ _⟩
  case round =>
    obtain ⟨q, d, tx, rfl, hk, hd1, hdq, htx, hst, hr, hb, hT⟩ := hrel
    have HQ := Lib.hid hst
    have HB := Lib.hid hb
    have HK := Lib.hid hk
    have HT := Lib.hid hT
    have hqle := hst.le
    clear hb hk hT
    cases hs : l.drop q with
    | nil =>
      have HTk := Lib.hid (take_no hst (drop_end hs hst.le))
      have HN := Lib.hid (hr.fail (by rw [hs]; rfl))
      clear hst hr hs
      go_wp2_with fail
      refine HTk.out.mono ?_; rintro e w1 ⟨rfl, hb⟩
      have HB1 := Lib.hid hb
      clear hb
      unfold gaveUp
      go_wp2_with fail
      exact ⟨rfl, strO_none HN.out ⟨rfl, HB.out.trans HB1.out⟩⟩
    | cons c s =>
      obtain ⟨hc, hs1, hlt⟩ := drop_at hs
      have HTk := Lib.hid (take_yes hst (by omega) hc)
      have HS1 := Lib.hid hs1
      rw [hs] at hr
      have HR := Lib.hid hr
      clear hs hs1 hc hst hr
      by_cases h40 : c = 40
      · subst h40
        go_wp2_with fail
        refine HTk.out.mono ?_; rintro e w1 ⟨rfl, hst, hb⟩
        have HQ1 := Lib.hid hst
        have HB1 := Lib.hid (HB.out.trans hb)
        have HT1 := Lib.hid (hb.tokB (by omega) HT.out)
        clear hst hb
        unfold bv
        go_wp2_with (first | (go_at_call 54; refine (put_z HQ1.out (by omega) 40 40 rfl).mono ?_; rintro e w2 ⟨rfl, hst2, hb2⟩))
        go_roundg (l.length - (q + 1))
        case measure => have := HK.out; omega
        case rel => exact ⟨q + 1, d + 1, _, by go_num, rfl, by omega, by omega, by simp; omega, hst2, by rw [HS1.out]; exact HR.out.step rfl, HB1.out.trans hb2, hb2.tokB (by omega) HT1.out⟩
      by_cases h41 : c = 41
      · subst h41
        by_cases hd : d = 1
        · subst hd
          go_wp2_with fail
          refine HTk.out.mono ?_; rintro e w1 ⟨rfl, hst, hb⟩
          have HQ1 := Lib.hid hst
          have HB1 := Lib.hid (HB.out.trans hb)
          have HT1 := Lib.hid (hb.tokB (by omega) HT.out)
          clear hst hb
          unfold bv
          go_wp2_with (first | (go_at_call 52; refine (stringToken_at HQ1.out).mono ?_; rintro e w2 ⟨rfl, hst2, hb2⟩; have hT2 := hb2.tokB (by omega) HT1.out; obtain ⟨t0, t1, t2, g0, g1, g2⟩ := tok_c hT2; unfold tkV))
          obtain ⟨r0, r1, r2, _⟩ := tok_c (tokSet_at hT2 6 0 ⟨tx.toArray⟩)
          exact bodyPost_ret (results_tok1 Try.results34 _ (tokSet w2 w.heap.size 6 0 ⟨tx.toArray⟩) w.heap.size 6 0 ⟨tx.toArray⟩ rfl r0 r1 r2) rfl (strO_some (HR.out.done rfl) HS1.out ⟨rfl, hst2.tok hT2 (by omega) _ _ _, (HB1.out.trans hb2).tok (Nat.le_refl _) _ _ _⟩)
        · have hst1 : stp d (41 :: s) = .go (d - 1) [41] s := by rw [stp, if_neg (by decide), if_pos rfl, if_neg hd]
          have HST := Lib.hid hst1
          have hd0 : ((d : Int) - 1 == 0) = false := by
            have : ¬ (d : Int) - 1 = 0 := by omega
            simp [this]
          clear hst1
          go_wp2_with fail
          refine HTk.out.mono ?_; rintro e w1 ⟨rfl, hst, hb⟩
          have HQ1 := Lib.hid hst
          have HB1 := Lib.hid (HB.out.trans hb)
          have HT1 := Lib.hid (hb.tokB (by omega) HT.out)
          clear hst hb
          unfold bv
          go_wp2_with (first | (go_at_call 54; refine (put_z HQ1.out (by omega) 41 41 rfl).mono ?_; rintro e w2 ⟨rfl, hst2, hb2⟩))
          go_roundg (l.length - (q + 1))
          case measure => have := HK.out; omega
          case rel => exact ⟨q + 1, d - 1, _, by congr 1; omega, rfl, by omega, by omega, by simp; omega, hst2, by rw [HS1.out]; exact HR.out.step HST.out, HB1.out.trans hb2, hb2.tokB (by omega) HT1.out⟩
      by_cases h13 : c = 13
      · subst h13
        go_wp2_with fail
        refine HTk.out.mono ?_; rintro e w1 ⟨rfl, hst, hb⟩
        have HQ1 := Lib.hid hst
        have HB1 := Lib.hid (HB.out.trans hb)
        have HT1 := Lib.hid (hb.tokB (by omega) HT.out)
        clear hst hb
        unfold bv
        go_wp2_with fail
        refine (takeIf_lf HQ1.out (by omega)).mono ?_; rintro e w2 ⟨b, q2, hq2, rfl, hst2, hb2⟩
        have HQ2 := Lib.hid hst2
        have HB2 := Lib.hid (HB1.out.trans hb2)
        have HT2 := Lib.hid (hb2.tokB (by omega) HT1.out)
        have hq2l := lf_at hq2 hst2.le (by have := HQ1.out.le; omega)
        have HQ2q := Lib.hid hq2
        clear hst2 hb2 hq2
        go_wp2_with (first | (go_at_call 54; refine (put_z HQ2.out (by omega) 10 10 rfl).mono ?_; rintro e w3 ⟨rfl, hst3, hb3⟩))
        go_roundg (l.length - q2)
        case measure => have := HK.out; omega
        case rel => exact ⟨q2, d, _, rfl, rfl, hd1, by omega, by simp; omega, hst3, by rw [HQ2q.out, HS1.out]; exact HR.out.step rfl, HB2.out.trans hb3, hb3.tokB (by omega) HT2.out⟩
      by_cases h92 : c = 92
      · subst h92
        go_wp2_with fail
        refine HTk.out.mono ?_; rintro e w1 ⟨rfl, hst, hb⟩
        have HQ1 := Lib.hid hst
        have HB1 := Lib.hid (HB.out.trans hb)
        have HT1 := Lib.hid (hb.tokB (by omega) HT.out)
        clear hst hb
        unfold bv
        go_wp2_with fail
        refine (escaped_at HQ1.out (by omega) (by omega)).mono ?_
        intro e w2 he
        unfold Esc at he
        rw [HS1.out] at he
        cases hes : esc s with
        | none =>
          rw [hes] at he
          obtain ⟨rfl, hb2⟩ := he
          have HN := Lib.hid (HR.out.fail (show stp d (92 :: s) = .fail by rw [stp, if_neg (by decide), if_neg (by decide), if_neg (by decide), if_pos rfl, hes]))
          have HB2 := Lib.hid hb2
          clear hb2 hes
          unfold gaveUp
          go_wp2_with fail
          exact ⟨rfl, strO_none HN.out ⟨rfl, HB1.out.trans HB2.out⟩⟩
        | some x =>
          rw [hes] at he
          obtain ⟨q2, hq2, rfl, hst2, hb2⟩ := he
          obtain ⟨y, r⟩ := x
          have HN := Lib.hid (HR.out.step (show stp d (92 :: s) = .go d y r by rw [stp, if_neg (by decide), if_neg (by decide), if_neg (by decide), if_pos rfl, hes]))
          have HQ2 := Lib.hid hst2
          have HB2 := Lib.hid hb2
          have HQ2q := Lib.hid hq2
          have hel := esc_len hes
          have hq2l : q + 1 < q2 ∧ q2 ≤ l.length := by
            have e1 : s.length = l.length - (q + 1) := by rw [← HS1.out, List.length_drop]
            have e2 : r.length = l.length - q2 := by have := congrArg List.length hq2; rw [List.length_drop] at this; exact this.symm
            have := hst2.le
            omega
          have hy := hel.2
          clear hb2 hes hst2 hq2 hel
          go_wp2_with fail
          go_roundg (l.length - q2)
          case measure => have := HK.out; omega
          case rel => exact ⟨q2, d, _, rfl, rfl, hd1, by omega, by simp; omega, HQ2.out, by rw [HQ2q.out]; exact HN.out, HB1.out.trans HB2.out, HB2.out.tokB (by omega) HT1.out⟩
      have n0 : ∀ k : UInt8, c ≠ k → ((c.toNat : Int) == (k.toNat : Int)) = false := fun k hk => beqF (fun e => hk (UInt8.toNat_inj.1 e))
      have b40 : ((c.toNat : Int) == 40) = false := n0 40 h40
      have b41 : ((c.toNat : Int) == 41) = false := n0 41 h41
      have b13 : ((c.toNat : Int) == 13) = false := n0 13 h13
      have b92 : ((c.toNat : Int) == 92) = false := n0 92 h92
      have HST := Lib.hid (HR.out.step (show stp d (c :: s) = .go d [c] s by rw [stp, if_neg h40, if_neg h41, if_neg h13, if_neg h92]))
      clear n0 h40 h41 h13 h92
      go_wp2_with fail
      refine HTk.out.mono ?_; rintro e w1 ⟨rfl, hst, hb⟩
      have HQ1 := Lib.hid hst
      have HB1 := Lib.hid (HB.out.trans hb)
      have HT1 := Lib.hid (hb.tokB (by omega) HT.out)
      clear hst hb
      unfold bv
      go_wp2_with (first | (go_at_call 54; refine (put_z HQ1.out (by omega) _ c rfl).mono ?_; rintro e w2 ⟨rfl, hst2, hb2⟩))
      go_roundg (l.length - (q + 1))
      case measure => have := HK.out; omega
      case rel => exact ⟨q + 1, d, _, rfl, rfl, hd1, by omega, by simp; omega, hst2, by rw [HS1.out]; exact HST.out, HB1.out.trans hb2, hb2.tokB (by omega) HT1.out⟩
end Go.Proofs.Ytaebpjcigajolaa
