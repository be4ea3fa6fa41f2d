/-
  A string in pointed brackets, by contracts.
-/
import Derived.Test.YtaebpjcigajolaaScanStr
namespace Go.Proofs.Ytaebpjcigajolaa
open Go.RowKit
open Sc
theorem hexDigit_yes {c d : UInt8} (h : hexd c = some d) (w : World) : Calls Try.prog 55 #[.int .u8 c.toNat] w fun e w' => e = .returned (.int .u8 d.toNat) ∧ w' = w := by
  have hc : c.toNat < 256 := UInt8.toNat_lt _
  unfold hexd at h
  have sb : ∀ k : UInt8, k.toNat ≤ c.toNat → (c - k).toNat = c.toNat - k.toNat := fun k hk => UInt8.toNat_sub_of_le _ _ (by rw [UInt8.le_iff_toNat_le]; exact hk)
  split at h
  · rename_i hr
    cases h
    have e : ((c - 48).toNat : Int) = (c.toNat : Int) - 48 := by rw [sb 48 hr.1]; have : (48 : UInt8).toNat = 48 := rfl; rw [this]; omega
    rw [e]
    have h1 := hr.1
    have h2 := hr.2
    clear hr sb e
    go_enter Try.func55, Try.ntmps55
    go_wp2_with fail
    go_ret
    exact ⟨rfl, rfl⟩
  split at h
  · rename_i hn hr
    cases h
    have e : ((c - 87).toNat : Int) = (c.toNat : Int) - 97 + 10 := by rw [sb 87 (by have : (87 : UInt8).toNat = 87 := rfl; omega)]; have : (87 : UInt8).toNat = 87 := rfl; rw [this]; omega
    rw [e]
    have h1 := hr.1
    have h2 := hr.2
    clear hr sb e hn
    go_enter Try.func55, Try.ntmps55
    go_wp2_with fail
    go_ret
    exact ⟨rfl, rfl⟩
  split at h
  · rename_i hn hn2 hr
    cases h
    have e : ((c - 55).toNat : Int) = (c.toNat : Int) - 65 + 10 := by rw [sb 55 (by have : (55 : UInt8).toNat = 55 := rfl; omega)]; have : (55 : UInt8).toNat = 55 := rfl; rw [this]; omega
    rw [e]
    have h1 := hr.1
    have h2 := hr.2
    clear hr sb e hn hn2
    go_enter Try.func55, Try.ntmps55
    go_wp2_with fail
    go_ret
    exact ⟨rfl, rfl⟩
  · cases h
theorem hexDigit_no {c : UInt8} (h : hexd c = none) (w : World) : Calls Try.prog 55 #[.int .u8 c.toNat] w fun e w' => e = gaveUp 14 ∧ w' = w := by
  unfold hexd at h
  split at h; · cases h
  split at h; · cases h
  split at h; · cases h
  rename_i h1 h2 h3
  have H1 := Lib.hid h1
  have H2 := Lib.hid h2
  have H3 := Lib.hid h3
  clear h1 h2 h3
  go_enter Try.func55, Try.ntmps55
  go_wp2_with fail
  all_goals try (exfalso; have := H1.out; have := H2.out; have := H3.out; omega)
  all_goals (refine (giveUp_at _ _).mono ?_; rintro e w2 ⟨rfl, rfl⟩)
  all_goals unfold gaveUp
  all_goals go_wp2_with fail
  all_goals exact ⟨rfl, rfl, rfl⟩
namespace Sc
theorem hexd_lt {c d : UInt8} (h : hexd c = some d) : d.toNat < 16 := by
  unfold hexd at h
  have sb : ∀ k : UInt8, k.toNat ≤ c.toNat → (c - k).toNat = c.toNat - k.toNat := fun k hk => UInt8.toNat_sub_of_le _ _ (by rw [UInt8.le_iff_toNat_le]; exact hk)
  have e48 : (48 : UInt8).toNat = 48 := rfl
  have e87 : (87 : UInt8).toNat = 87 := rfl
  have e55 : (55 : UInt8).toNat = 55 := rfl
  split at h
  · cases h; rw [sb 48 (by omega)]; omega
  split at h
  · cases h; rw [sb 87 (by omega)]; omega
  split at h
  · cases h; rw [sb 55 (by omega)]; omega
  · cases h
/-- four bits more -/
theorem or4 : ∀ (n : Fin 16) (d : Fin 16), bits .or .u8 ((n.val : Int) * 16) (d.val : Int) = ((n.val * 16 + d.val : Nat) : Int) := by decide +kernel
theorem or16 {x d : UInt8} (h1 : x.toNat < 16) (h2 : d.toNat < 16) : bits .or .u8 (((x * 16).toNat : Nat) : Int) (d.toNat : Int) = ((x * 16 + d).toNat : Int) := by
  have h := or4 ⟨x.toNat, h1⟩ ⟨d.toNat, h2⟩
  have e : (16 : UInt8).toNat = 16 := rfl
  have ex : (x * 16).toNat = x.toNat * 16 := by rw [UInt8.toNat_mul, e]; omega
  rw [ex, UInt8.toNat_add, ex]
  have : (x.toNat * 16 + d.toNat) % 2 ^ 8 = x.toNat * 16 + d.toNat := by omega
  rw [this]
  simpa using h
theorem mul16 {d : UInt8} (h : d.toNat < 16) : (d.toNat : Int) * 16 = ((d * 16).toNat : Int) := by
  have e : (16 : UInt8).toNat = 16 := rfl
  rw [UInt8.toNat_mul, e]; omega
/-- the way so far in pointed brackets -/
def HxAt (s0 done : List UInt8) (h : Option UInt8) (s : List UInt8) : Prop := hx none s0 = (hx h s).map fun y => (done ++ y.1, y.2)
theorem HxAt.start (s : List UInt8) : HxAt s [] none s := by unfold HxAt; cases hx none s <;> simp
theorem HxAt.done {s0 done s : List UInt8} {h : Option UInt8} (a : HxAt s0 done h (62 :: s)) : hx none s0 = some (done ++ hlast h, s) := by
  unfold HxAt at a; rw [a, hx, if_pos rfl]; rfl
theorem HxAt.over {s0 done : List UInt8} {h : Option UInt8} (a : HxAt s0 done h []) : hx none s0 = none := by unfold HxAt at a; rw [a]; rfl
theorem HxAt.blank {s0 done s : List UInt8} {h : Option UInt8} {c : UInt8} (a : HxAt s0 done h (c :: s)) (h1 : c ≠ 62) (h2 : blnk c = true) : HxAt s0 done h s := by
  unfold HxAt at *; rw [a, hx, if_neg h1, if_pos h2]
theorem HxAt.wrong {s0 done s : List UInt8} {h : Option UInt8} {c : UInt8} (a : HxAt s0 done h (c :: s)) (h1 : c ≠ 62) (h2 : blnk c = false) (h3 : hexd c = none) : hx none s0 = none := by
  unfold HxAt at a; rw [a, hx, if_neg h1, if_neg (by simp [h2]), if_pos (by rw [h3]; rfl)]; rfl
theorem HxAt.first {s0 done s : List UInt8} {c d : UInt8} (a : HxAt s0 done none (c :: s)) (h1 : c ≠ 62) (h2 : blnk c = false) (h3 : hexd c = some d) : HxAt s0 done (some d) s := by
  unfold HxAt at *; rw [a, hx, if_neg h1, if_neg (by simp [h2]), if_neg (by rw [h3]; simp), if_pos (show (none : Option UInt8).isNone = true from rfl), h3]
theorem HxAt.second {s0 done s : List UInt8} {c d x : UInt8} (a : HxAt s0 done (some x) (c :: s)) (h1 : c ≠ 62) (h2 : blnk c = false) (h3 : hexd c = some d) : HxAt s0 (done ++ [x * 16 + d]) none s := by
  unfold HxAt at *; rw [a, hx, if_neg h1, if_neg (by simp [h2]), if_neg (by rw [h3]; simp), if_neg (by simp), h3]
  cases hx none s <;> simp
end Sc
/-- the last byte of the text, and that it may be written over -/
theorem last_at {w : World} {N R cap p : Nat} {ba : Option Addr} {l done : List UInt8} {y : UInt8} (h : St w N R ba cap l p (done ++ [y])) :
    ∃ g vc, w.cell? ⟨R, 2, none⟩ = some (.slice (some ⟨g, 0, none⟩) (done ++ [y]).length vc) ∧ w.cell? ⟨g, done.length, none⟩ = some (.int .u8 y.toNat) ∧ w.frozen? ⟨g, done.length, none⟩ = false ∧
      ∀ k z, St ((w.drewN k).setCell ⟨g, done.length, none⟩ (.int .u8 (UInt8.toNat z))) N R ba cap l p (done ++ [z]) ∧ Fr R w ((w.drewN k).setCell ⟨g, done.length, none⟩ (.int .u8 (UInt8.toNat z))) := by
  obtain ⟨v, hv, hown⟩ := h.c2
  rcases hown.2 with ⟨rfl, hn⟩ | ⟨g, vc, cur, rfl, hb, hg, hnc, hcm, hcs, htake⟩
  · simp at hn
  · have hj : done.length < (done ++ [y]).length * 1 := by simp
    have hc : w.cell? ⟨g, done.length, none⟩ = some (.int .u8 y.toNat) := by
      rw [hown.cellAt _ hj]; simp [bv]
    have hR : R ≠ g := by omega
    refine ⟨g, vc, hv, hc, hown.frozenAt _, fun k z => ?_⟩
    have hown' : (w.drewN k).ownsRow (R + 1) 5 1 (.slice (some ⟨g, 0, none⟩) (done ++ [y]).length vc) (done ++ [y]).length ((done ++ [y]).map bv) := hown
    have hst := hown'.stored done.length (.int .u8 (UInt8.toNat z))
    have hbl : ∀ i, i ≠ g → ((w.drewN k).setCell ⟨g, done.length, none⟩ (.int .u8 (UInt8.toNat z))).heap[i]? = w.heap[i]? := fun i hi => Below.heap_setCell _ _ _ _ hi
    have hBel : Below N w ((w.drewN k).setCell ⟨g, done.length, none⟩ (.int .u8 (UInt8.toNat z))) := (belowDrewN N w k).setCell (by have := h.ge; show N ≤ g; omega) _
    have hRb := hbl R hR
    refine ⟨⟨h.ge, Nat.lt_of_lt_of_le h.lt hBel.size, h.le, h.cl, (World.cell?_of_block (w := w) hRb).trans h.c0, (World.cell?_of_block (w := w) hRb).trans h.c1, ⟨_, (World.cell?_of_block (w := w) hRb).trans hv, ?_⟩, fun o => (World.frozen?_of_block (w := w) hRb).trans (h.fz o), h.rd.below hBel⟩, ⟨rfl, rfl, rfl, hBel.size, fun i hi hiR ho => ?_⟩⟩
    · have e := hst.1
      have e2 : ((done ++ [y]).map bv).set done.length (.int .u8 (UInt8.toNat z)) = (done ++ [z]).map bv := by simp [bv]
      have e3 : (done ++ [y]).length = (done ++ [z]).length := by simp
      rw [e2, e3] at e
      rw [e3]
      exact e
    · refine hbl i (fun e => ?_)
      subst e
      rcases ho with ho | ho
      · omega
      · exact ho _ _ hg
def HexRel (N R : Nat) (ba : Option Addr) (cap : Nat) (l s0 : List UInt8) (w : World) (T k : Nat) (v : Value) (wr : World) : Prop :=
  ∃ (q : Nat) (h : Option UInt8) (done : List UInt8), k = l.length - q ∧ v = .bool h.isSome ∧ (∀ x, h = some x → x.toNat < 16) ∧ (done ++ hlast h).length ≤ q ∧ St wr N R ba cap l q (done ++ hlast h) ∧ HxAt s0 done h (l.drop q) ∧ Fr R w wr ∧ wr.heap[T]? = some (tokB 0 0 ⟨#[]⟩)
theorem hexString_at {w : World} {N R cap p : Nat} {ba : Option Addr} {l : List UInt8} (h : St w N R ba cap l p []) (hl : l.length ≤ 65535) :
    Calls Try.prog 36 #[.pointer (some ⟨R, 0, none⟩)] w (StrO N R ba cap l (hx none (l.drop p)) w) := by
  have HS := Lib.hid (h.alloc (tokB 0 0 ⟨#[]⟩))
  have hRw := h.lt
  obtain ⟨s0, hs0⟩ : ∃ s, l.drop p = s := ⟨_, rfl⟩
  rw [hs0]
  have HS0 := Lib.hid hs0
  clear h hs0
  go_enter Try.func36, Try.ntmps36
  go_wp2_with fail
  go_loopg [3] (l.length - p) (fun k v wr => HexRel N R ba cap l s0 w w.heap.size k v wr)
  case atStart => exact ⟨p, none, [], rfl, rfl, (fun x hx => by cases hx), by simp [hlast], HS.out, by rw [HS0.out]; exact HxAt.start _, (Fr.refl _ _).alloc _, tok_new _ _ _ _⟩
  case round =>
    obtain ⟨q, h, done, hk, rfl, hx16, htx, hst, hr, hb, hT⟩ := hrel
    have HQ := Lib.hid hst
    have HB := Lib.hid hb
    have HK := Lib.hid hk
    have HT := Lib.hid hT
    have HX := Lib.hid hx16
    have hqle := hst.le
    obtain ⟨tx, htxe⟩ : ∃ tx, done ++ hlast h = tx := ⟨_, rfl⟩
    rw [htxe] at HQ htx
    have HTX := Lib.hid htxe
    clear hb hk hT hx16 htxe
    cases hs : l.drop q with
    | nil =>
      have HTk := Lib.hid (take_no hst (drop_end hs hst.le))
      have HN := Lib.hid (show hx none s0 = none by rw [hs] at hr; exact hr.over)
      clear hst hr hs
      go_wp2_with fail
      refine HTk.out.mono ?_; rintro e w1 ⟨rfl, hb⟩
      have HB1 := Lib.hid hb
      clear hb
      unfold gaveUp
      go_wp2_with fail
      exact ⟨rfl, strO_none HN.out ⟨rfl, HB.out.trans HB1.out⟩⟩
    | cons c s =>
      obtain ⟨hc, hs1, hlt⟩ := drop_at hs
      have HTk := Lib.hid (take_yes HQ.out (by omega) hc)
      have HS1 := Lib.hid hs1
      rw [hs] at hr
      have HR := Lib.hid hr
      clear hs hs1 hc hst hr
      by_cases h62 : c = 62
      · subst h62
        go_wp2_with fail
        refine HTk.out.mono ?_; rintro e w1 ⟨rfl, hst, hb⟩
        have HQ1 := Lib.hid hst
        have HB1 := Lib.hid (HB.out.trans hb)
        have HT1 := Lib.hid (hb.tokB (by omega) HT.out)
        clear hst hb
        unfold bv
        go_wp2_with (first | (go_at_call 52; refine (stringToken_at HQ1.out).mono ?_; rintro e w2 ⟨rfl, hst2, hb2⟩; have hT2 := hb2.tokB (by omega) HT1.out; obtain ⟨t0, t1, t2, g0, g1, g2⟩ := tok_c hT2; unfold tkV))
        obtain ⟨r0, r1, r2, _⟩ := tok_c (tokSet_at hT2 6 0 ⟨tx.toArray⟩)
        exact bodyPost_ret (results_tok1 Try.results36 _ (tokSet w2 w.heap.size 6 0 ⟨tx.toArray⟩) w.heap.size 6 0 ⟨tx.toArray⟩ rfl r0 r1 r2) rfl (strO_some (by rw [← HTX.out]; exact HR.out.done) HS1.out ⟨rfl, hst2.tok hT2 (by omega) _ _ _, (HB1.out.trans hb2).tok (Nat.le_refl _) _ _ _⟩)
      have b62 : ((c.toNat : Int) == 62) = false := beqF (k := 62) (fun e => h62 (UInt8.toNat_inj.1 e))
      have H62 := Lib.hid h62
      clear h62
      go_wp2_with fail
      refine HTk.out.mono ?_; rintro e w1 ⟨rfl, hst, hb⟩
      have HQ1 := Lib.hid hst
      have HB1 := Lib.hid (HB.out.trans hb)
      have HT1 := Lib.hid (hb.tokB (by omega) HT.out)
      clear hst hb
      unfold bv
      have HI := Lib.hid (isBlank_at c w1)
      unfold Says at HI
      cases hbl : blnk c with
      | true =>
        rw [hbl] at HI
        have HN := Lib.hid (HR.out.blank H62.out hbl)
        clear hbl
        go_wp2_with fail
        refine HI.out.mono ?_; rintro e w2 ⟨rfl, rfl⟩
        go_wp2_with fail
        go_roundg (l.length - (q + 1))
        case measure => have := HK.out; omega
        case rel => exact ⟨q + 1, h, done, rfl, rfl, HX.out, by rw [HTX.out]; omega, by rw [HTX.out]; exact HQ1.out, by rw [HS1.out]; exact HN.out, HB1.out, HT1.out⟩
      | false =>
        rw [hbl] at HI
        have HBL := Lib.hid hbl
        clear hbl
        go_wp2_with fail
        refine HI.out.mono ?_; rintro e w2 ⟨rfl, rfl⟩
        go_wp2_with fail
        cases hd : hexd c with
        | none =>
          refine (hexDigit_no hd _).mono ?_; rintro e w3 ⟨rfl, rfl⟩
          have HN := Lib.hid (HR.out.wrong H62.out HBL.out hd)
          clear hd
          unfold gaveUp
          go_wp2_with fail
          exact ⟨rfl, strO_none HN.out ⟨rfl, HB1.out⟩⟩
        | some d =>
          refine (hexDigit_yes hd _).mono ?_; rintro e w3 ⟨rfl, rfl⟩
          have hd16 := hexd_lt hd
          have HD := Lib.hid hd
          clear hd
          cases h with
          | none =>
            have HM := Lib.hid (mul16 hd16)
            have HN := Lib.hid (HR.out.first H62.out HBL.out HD.out)
            go_wp2_with (first | (go_at_call 54; refine (put_z HQ1.out (by omega) _ (d * 16) HM.out).mono ?_; rintro e w4 ⟨rfl, hst4, hb4⟩))
            go_roundg (l.length - (q + 1))
            case measure => have := HK.out; omega
            case rel =>
              have e : done ++ hlast (some d) = tx ++ [d * 16] := by rw [← HTX.out]; simp [hlast]
              exact ⟨q + 1, some d, done, rfl, rfl, (fun x hx => by cases hx; exact hd16), by rw [e]; simp; omega, by rw [e]; exact hst4, by rw [HS1.out]; exact HN.out, HB1.out.trans hb4, hb4.tokB (by omega) HT1.out⟩
          | some x =>
            have hx16 := HX.out x rfl
            have HN := Lib.hid (HR.out.second H62.out HBL.out HD.out)
            have htxe : tx = done ++ [x * 16] := HTX.out.symm
            have hOr := or16 hx16 hd16
            obtain ⟨y, hy⟩ : ∃ y, x * 16 = y := ⟨_, rfl⟩
            obtain ⟨z, hz⟩ : ∃ z, y + d = z := ⟨_, rfl⟩
            rw [hy] at htxe
            rw [hy, hz] at hOr HN
            subst htxe
            obtain ⟨g, vc, hc2, hcg, hfg, hput⟩ := last_at HQ1.out
            have HP := Lib.hid hput
            have hlen : (done ++ [y]).length = done.length + 1 := by simp
            rw [hlen] at hc2
            have hdl : done.length < 65536 := by omega
            have hdq : done.length + 1 ≤ q := by rw [← hlen]; exact htx
            clear hput hlen hy hz
            go_wp2_with fail
            go_region
            go_wp2_with fail
            go_roundg (l.length - (q + 1))
            case measure => have := HK.out; omega
            case rel =>
              have e : done ++ [z] ++ hlast none = done ++ [z] := by simp [hlast]
              have hst4 := ((HP.out 0 z).1.drewN 1)
              have hb4 := ((HP.out 0 z).2.drewN 1)
              exact ⟨q + 1, none, done ++ [z], rfl, rfl, (fun x hx => by cases hx), by rw [e]; simp; omega, by rw [e]; exact hst4, by rw [HS1.out]; exact HN.out, HB1.out.trans hb4, hb4.tokB (by omega) HT1.out⟩
end Go.Proofs.Ytaebpjcigajolaa
