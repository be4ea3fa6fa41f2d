/-
  A stack's calls, by contracts: Need; the law's fits, same.
-/
import Derived.Test.YtcmoppliipdfgaaStkOps7
import Derived.Test.YtcmoppliipdfgaaStoEnt
namespace Go.Proofs.Ytcmoppliipdfgaa
open Go.RowKit
open St Stk
theorem fits_at (o : Ob) (k : Int) (w : World) : Calls Try.prog 62 #[o.val, .int .i64 k] w fun e w' => e = .returned (.bool (fitB o k)) ∧ Below w.heap.size w w' := by
  unfold Ob.val
  by_cases h1 : k = -1
  · have HR := Lib.hid (show fitB o k = ((o.kind == 1) || (o.kind == 2)) by unfold fitB; rw [if_pos h1])
    subst h1
    rw [HR.out]
    clear HR
    go_enter Try.func62, Try.ntmps62
    go_wp2_with fail
    all_goals go_ret
    all_goals exact ⟨by simp_all, below1 w _⟩
  by_cases h2 : k = -2
  · have HR := Lib.hid (show fitB o k = true by unfold fitB; rw [if_neg h1, if_pos h2])
    subst h2
    rw [HR.out]
    clear HR
    go_enter Try.func62, Try.ntmps62
    go_wp2_with fail
    go_ret
    exact ⟨rfl, below1 w _⟩
  by_cases h3 : k = -3
  · have HR := Lib.hid (show fitB o k = ((o.kind == 6) || (o.kind == 7)) by unfold fitB; rw [if_neg h1, if_neg h2, if_pos h3])
    subst h3
    rw [HR.out]
    clear HR h1 h2
    go_enter Try.func62, Try.ntmps62
    go_wp2_with fail
    all_goals go_ret
    all_goals exact ⟨by simp_all, below1 w _⟩
  by_cases h4 : k = -4
  · have HR := Lib.hid (show fitB o k = ((o.kind == 7) && o.exec) by unfold fitB; rw [if_neg h1, if_neg h2, if_neg h3, if_pos h4])
    subst h4
    rw [HR.out]
    clear HR h1 h2 h3
    go_enter Try.func62, Try.ntmps62
    go_wp2_with fail
    all_goals go_ret
    all_goals exact ⟨by simp_all, below1 w _⟩
  have HR := Lib.hid (show fitB o k = (o.kind == k) by unfold fitB; rw [if_neg h1, if_neg h2, if_neg h3, if_neg h4])
  rw [HR.out]
  clear HR
  have g1 : (k == -1) = false := by simp [h1]
  have g2 : (k == -2) = false := by simp [h2]
  have g3 : (k == -3) = false := by simp [h3]
  have g4 : (k == -4) = false := by simp [h4]
  clear h1 h2 h3 h4
  go_enter Try.func62, Try.ntmps62
  go_wp2_with fail
  go_ret
  exact ⟨rfl, below1 w _⟩
theorem ob_same (o : Ob) (w : World) : (Op.equalIn 10000 40 (.agg #[.int .i64 o.kind, .bool o.exec, .int .i64 o.acc, .int .i64 o.n, .string o.name, .int .i64 o.ref, .int .i64 o.frm, .int .i64 o.len]) (.agg #[.int .i64 o.kind, .bool o.exec, .int .i64 o.acc, .int .i64 o.n, .string o.name, .int .i64 o.ref, .int .i64 o.frm, .int .i64 o.len])).run Try.prog w = .ok true w := by
  rw [ob_eql o o w]
  congr 1
  unfold obEq
  rw [beq_toListBytes]
  simp
theorem addr_two (a : Addr) (m f : Nat) (hf : 0 < f) : a.add (m + f) = ⟨(a.add m).block, (a.add m).off + f, none⟩ := by
  have h1 : m + f ≠ 0 := by omega
  unfold Addr.add
  rw [if_neg h1]
  by_cases hm : m = 0
  · subst hm; simp
  · rw [if_neg hm]; simp; omega
/-- an object's cells at any address -/
structure ObA (w : World) (ad : Addr) (o : Ob) : Prop where
  c0 : w.cell? ad = some (.int .i64 o.kind)
  c1 : w.cell? ⟨ad.block, ad.off + 1, none⟩ = some (.bool o.exec)
  c2 : w.cell? ⟨ad.block, ad.off + 2, none⟩ = some (.int .i64 o.acc)
  c3 : w.cell? ⟨ad.block, ad.off + 3, none⟩ = some (.int .i64 o.n)
  c4 : w.cell? ⟨ad.block, ad.off + 4, none⟩ = some (.string o.name)
  c5 : w.cell? ⟨ad.block, ad.off + 5, none⟩ = some (.int .i64 o.ref)
  c6 : w.cell? ⟨ad.block, ad.off + 6, none⟩ = some (.int .i64 o.frm)
  c7 : w.cell? ⟨ad.block, ad.off + 7, none⟩ = some (.int .i64 o.len)
theorem src_obA {w : World} {ad : Addr} {l : List Ob} {p : Nat} {o : Ob} (h : SrcO w (some ad) l) (hp : l[p]? = some o) : ObA w (ad.add (p * 8)) o := by
  have hx : ∀ f, f < 8 → w.cell? (ad.add (p * 8 + f)) = o.cells[f]? := fun f hf => by
    have h8 : f < o.cells.length := by simp [Ob.cells]; omega
    rw [List.getElem?_eq_getElem h8]
    refine h.some _ _ ?_
    rw [obs_at l p f o hp hf, List.getElem?_eq_getElem h8]
  have hy : ∀ f, 0 < f → f < 8 → w.cell? ⟨(ad.add (p * 8)).block, (ad.add (p * 8)).off + f, none⟩ = o.cells[f]? := fun f h0 hf => by rw [← addr_two ad (p * 8) f h0]; exact hx f hf
  exact ⟨hx 0 (by omega), hy 1 (by omega) (by omega), hy 2 (by omega) (by omega), hy 3 (by omega) (by omega), hy 4 (by omega) (by omega), hy 5 (by omega) (by omega), hy 6 (by omega) (by omega), hy 7 (by omega) (by omega)⟩
/-- whole numbers that can be read at a slice's address -/
def SrcI (w : World) (a : Option Addr) (ks : List Int) : Prop := ks = [] ∨ ∃ ad, a = some ad ∧ ∀ j z, ks[j]? = some z → w.cell? (ad.add j) = some (.int .i64 z)
theorem SrcI.below {w w' : World} {a : Option Addr} {ks : List Int} (h : SrcI w a ks) (hb : Below w.heap.size w w') : SrcI w' a ks := by
  rcases h with h | ⟨ad, e, hc⟩
  · exact .inl h
  · exact .inr ⟨ad, e, fun j z hz => (hb.cell (World.block_lt_of_cell? w _ (hc j z hz))).trans (hc j z hz)⟩
/-- the first k are of their kinds -/
def FitK (t : List Ob) (ks : List Int) (k : Nat) : Prop := ∀ j o z, j < k → t[j]? = some o → ks[j]? = some z → fitB o z = true
theorem FitK.next {t : List Ob} {ks : List Int} {k : Nat} {o : Ob} {z : Int} (h : FitK t ks k) (ho : t[k]? = some o) (hz : ks[k]? = some z) (hf : fitB o z = true) : FitK t ks (k + 1) := by
  intro j p y hj hp hy
  by_cases e : j = k
  · subst e
    rw [ho] at hp; rw [hz] at hy
    cases hp; cases hy
    exact hf
  · exact h j p y (by omega) hp hy
/-- all of them are -/
def fitAll (t : List Ob) (ks : List Int) : Bool := (t.zip ks).all fun p => fitB p.1 p.2
theorem fitAll_yes {t : List Ob} {ks : List Int} (hl : t.length = ks.length) (h : FitK t ks ks.length) : fitAll t ks = true := by
  unfold fitAll
  rw [List.all_eq_true]
  intro p hp
  obtain ⟨i, hi, e⟩ := List.getElem_of_mem hp
  rw [List.length_zip] at hi
  rw [List.getElem_zip] at e
  rw [← e]
  exact h i _ _ (by omega) (List.getElem?_eq_getElem (by omega)) (List.getElem?_eq_getElem (by omega))
theorem fitAll_no {t : List Ob} {ks : List Int} {k : Nat} {o : Ob} {z : Int} (ho : t[k]? = some o) (hz : ks[k]? = some z) (hf : fitB o z = false) : fitAll t ks = false := by
  unfold fitAll
  rw [Bool.eq_false_iff]
  intro h
  rw [List.all_eq_true] at h
  obtain ⟨h1, e1⟩ := List.getElem?_eq_some_iff.1 ho
  obtain ⟨h2, e2⟩ := List.getElem?_eq_some_iff.1 hz
  have := h (o, z) (by
    refine List.mem_iff_getElem.2 ⟨k, by rw [List.length_zip]; omega, ?_⟩
    rw [List.getElem_zip, e1, e2])
  simp at this
  rw [hf] at this
  cases this
def needE (un : Int) (l : List Ob) (ks : List Int) : Int := if l.length < ks.length then un else if fitAll (l.drop (l.length - ks.length)) ks = true then 0 else 16
section
variable {O : Nat → Prop} {w : World} {s : Nat} {most ov un : Int} {l : List Ob}
set_option maxRecDepth 100000
set_option maxHeartbeats 1000000
theorem need_at {a : Option Addr} {c : Nat} {ks : List Int} (h : Sk O w s most ov un l) (hs : SrcI w a ks) (hm : ks.length ≤ 50000) : Calls Try.prog 61 #[.pointer (some ⟨s, 0, none⟩), .slice a ks.length c] w fun e w' => e = .returned (.int .i64 (needE un l ks)) ∧ Below w.heap.size w w' := by
  obtain ⟨la, lc, hk, hl, hO, _, hcap⟩ := h.skc
  have hfew := h.few
  by_cases hlt : l.length < ks.length
  · have HR := Lib.hid (show needE un l ks = un by unfold needE; rw [if_pos hlt])
    have HT := Lib.hid (top_under hk (i := (ks.length : Int)) (by omega) (by omega))
    rw [HR.out]
    clear h hk hl hO hcap hs
    go_enter Try.func61, Try.ntmps61
    go_wp2_with fail
    refine HT.out.mono ?_; rintro e w1 ⟨rfl, q, rfl⟩
    go_wp2_with fail
    go_ret
    exact ⟨rfl, below_draw (Below.refl _ _) q⟩
  · have HT := Lib.hid (top_any hl hk hcap hfew (i := ks.length) (by omega))
    have hne : needE un l ks = if fitAll (l.drop (l.length - ks.length)) ks = true then 0 else 16 := by unfold needE; rw [if_neg hlt]
    have hd : (l.drop (l.length - ks.length)).length = ks.length := by rw [List.length_drop]; omega
    generalize l.drop (l.length - ks.length) = t at *
    have HE := Lib.hid hne
    have HD := Lib.hid hd
    have HS := Lib.hid hs
    clear h hk hl hO hcap hs hne hd
    go_enter Try.func61, Try.ntmps61
    go_wp2_with fail
    refine HT.out.mono ?_; rintro e w1 ⟨ta, tc, q, rfl, hsrc, htn, rfl⟩
    have HSrc := Lib.hid (hsrc.below (below_draw (Below.refl _ _) q))
    have HSI := Lib.hid (HS.out.below (below_draw (Below.refl _ _) q))
    have HB0 := Lib.hid (below_draw (Below.refl w.heap.size w) q)
    clear hsrc htn
    go_wp2_with fail
    generalize w.drewN q = w1 at *
    go_loopw [23] (fun v wr => ∃ k : Nat, v = .int .i64 k ∧ k ≤ ks.length ∧ FitK t ks k ∧ Below w1.heap.size w1 wr) (fun v _ => ks.length - (intOf v).toNat)
    case atStart => exact ⟨0, rfl, Nat.zero_le _, fun j o z hj => by omega, Below.refl _ _⟩
    case round =>
      obtain ⟨k, rfl, hk, hft, hb⟩ := hrel
      have HF := Lib.hid hft
      have HB := Lib.hid hb
      clear hft hb
      by_cases hlt2 : k < ks.length
      · obtain ⟨z, hz⟩ : ∃ z, ks[k]? = some z := ⟨_, List.getElem?_eq_getElem hlt2⟩
        obtain ⟨o, ho⟩ : ∃ o, t[k]? = some o := ⟨_, List.getElem?_eq_getElem (by have := HD.out; omega)⟩
        obtain ⟨kad, rfl, hkc⟩ : ∃ ad, a = some ad ∧ wr.cell? (ad.add k) = some (.int .i64 z) := by
          rcases HSI.out.below HB.out with e | ⟨ad, e, hx⟩
          · rw [e] at hlt2; simp at hlt2
          · exact ⟨ad, e, hx k z hz⟩
        obtain ⟨tad, rfl⟩ : ∃ ad, ta = some ad := by
          rcases HSrc.out with e | ⟨ad, e, _⟩
          · have := HD.out; rw [e] at this; simp at this; omega
          · exact ⟨ad, e⟩
        obtain ⟨o0, o1, o2, o3, o4, o5, o6, o7⟩ := src_obA (HSrc.out.below HB.out) ho
        have HFit := Lib.hid (fun W => isOf_at o z W)
        unfold Ob.val at HFit
        have HZ := Lib.hid hz
        have HO := Lib.hid ho
        clear hz ho
        go_wp2_with fail
        refine (HFit.out _).mono ?_; rintro e w2 ⟨rfl, hb2⟩
        have HB2 := Lib.hid (HB.out.trans (hb2.mono HB.out.size))
        clear hb2 o0 o1 o2 o3 o4 o5 o6 o7
        cases hf : fitB o z with
        | true =>
          have HN := Lib.hid (HF.out.next HO.out HZ.out hf)
          clear hf
          go_wp2_with fail
          go_roundw
          case rel => exact ⟨k + 1, by go_num, by omega, HN.out, HB2.out⟩
          case measure => simp [intOf]; omega
        | false =>
          have HN := Lib.hid (fitAll_no HO.out HZ.out hf)
          clear hf
          go_wp2_with fail
          go_ret
          rw [HE.out, HN.out]
          exact ⟨rfl, HB0.out.trans (HB2.out.mono HB0.out.size)⟩
      · have hkl : k = ks.length := by omega
        subst hkl
        have HN := Lib.hid (fitAll_yes HD.out HF.out)
        go_wp2_with fail
        go_ret
        rw [HE.out, HN.out]
        exact ⟨rfl, HB0.out.trans (HB.out.mono HB0.out.size)⟩
theorem need_nil (w : World) : Calls Try.prog 61 #[.pointer none, .slice none 0 0] w fun e w' => e = .returned (.int .i64 21) ∧ w' = w := by
  have HT := Lib.hid (fun W => top_nil (w := W) 0)
  go_enter Try.func61, Try.ntmps61
  go_wp2_with fail
  refine (HT.out _).mono ?_; rintro e w1 ⟨rfl, rfl⟩
  go_wp2_with fail
  go_ret
  exact ⟨rfl, rfl⟩
/-- two rows that are the same -/
theorem same_yes {a b : Option Addr} {ca cb : Nat} (h1 : SrcO w a l) (h2 : SrcO w b l) (hm : l.length ≤ 50000) : Calls Try.prog 63 #[.slice a l.length ca, .slice b l.length cb] w fun e w' => e = .returned (.bool true) ∧ Below w.heap.size w w' := by
  have H1 := Lib.hid h1
  have H2 := Lib.hid h2
  clear h1 h2
  go_enter Try.func63, Try.ntmps63
  go_wp2_with fail
  go_loopw [5] (fun v wr => ∃ k : Nat, v = .int .i64 k ∧ k ≤ l.length ∧ Below w.heap.size w wr) (fun v _ => l.length - (intOf v).toNat)
  case atStart => exact ⟨0, rfl, Nat.zero_le _, Below.refl _ _⟩
  case round =>
    obtain ⟨k, rfl, hk, hb⟩ := hrel
    have HB := Lib.hid hb
    clear hb
    by_cases hlt : k < l.length
    · obtain ⟨o, ho⟩ : ∃ o, l[k]? = some o := ⟨_, List.getElem?_eq_getElem hlt⟩
      obtain ⟨ad, rfl⟩ : ∃ ad, a = some ad := by
        rcases H1.out with e | ⟨ad, e, _⟩
        · rw [e] at hlt; simp at hlt
        · exact ⟨ad, e⟩
      obtain ⟨bd, rfl⟩ : ∃ ad, b = some ad := by
        rcases H2.out with e | ⟨ad, e, _⟩
        · rw [e] at hlt; simp at hlt
        · exact ⟨ad, e⟩
      obtain ⟨o0, o1, o2, o3, o4, o5, o6, o7⟩ := src_obA (H1.out.below HB.out) ho
      obtain ⟨p0, p1, p2, p3, p4, p5, p6, p7⟩ := src_obA (H2.out.below HB.out) ho
      have heq := ob_same o
      clear ho
      go_wp2_with fail
      go_quiet (fail)
      go_wp2_with fail
      go_roundw
      case rel => exact ⟨k + 1, by go_num, by omega, below_draw HB.out _⟩
      case measure => simp [intOf]; omega
    · have hkl : k = l.length := by omega
      subst hkl
      go_wp2_with fail
      go_ret
      exact ⟨rfl, HB.out⟩
end
end Go.Proofs.Ytcmoppliipdfgaa
