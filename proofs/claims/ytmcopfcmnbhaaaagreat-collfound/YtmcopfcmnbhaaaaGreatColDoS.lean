/-
  coll.Do of search, by a contract.
-/
import Derived.Test.YtmcopfcmnbhaaaaGreatColSrch
namespace Go.Proofs.YtmcopfcmnbhaaaaGreat
open Go.RowKit
open St
open Stk
namespace Col
def sSrch : ByteArray := ⟨#[115, 101, 97, 114, 99, 104]⟩
/-- what search leaves -/
def SrP (w : World) (a : Ob) (X Y : List UInt8) (e : Ending) (w' : World) : Prop := ∃ p, e = .returned (.slice p (srchL a X Y).length (srchL a X Y).length) ∧ Hnd w.heap.size p (srchL a X Y) w' ∧ Below w.heap.size w w'
set_option maxRecDepth 100000 in
set_option maxHeartbeats 1000000 in
theorem doTwo_search {O : Nat → Prop} {w : World} {s : Nat} {fr : Int} {G : List (Th × Lay)} (h : Rep O w s fr G) (hI : IdxAt w) (a b : Ob) (t u : Nat) (ha : tld G a 6 = some t) (hb : tld G b 6 = some u) (haa : a.acc = 0 ∨ a.acc = 1) (hba : b.acc = 0 ∨ b.acc = 1)
    (hal : ((bytesR G a).length : Int) = a.len) (ha6 : (bytesR G a).length ≤ 65535) (hb6 : (bytesR G b).length ≤ 65535) :
    Calls Tryz.prog 62 #[cv s, .string sSrch, a.val, b.val] w (SrP w a (bytesR G a) (bytesR G b)) := by
  have hb0 : Below w.heap.size w (((w.alloc (cvC s)).alloc (obC a)).alloc (obC b)) := (below2 w (cvC s) (obC a)).trans ((below1 ((w.alloc (cvC s)).alloc (obC a)) (obC b)).mono (by simp; omega))
  have HB0 := Lib.hid hb0
  have HL := Lib.hid (search_at (h.below hb0) (hI.below hb0) a b t u ha hb haa hba hal ha6 hb6)
  unfold cvC obC at HB0 HL
  unfold cv at HL ⊢
  unfold Ob.val at HL ⊢
  unfold sSrch
  generalize bytesR G a = X at *
  generalize bytesR G b = Y at *
  clear h ha hb haa hba hb0 hal ha6 hb6 hI
  go_enter Tryz.func62, Tryz.ntmps62
  go_wp2_with fail
  refine HL.out.mono ?_; rintro e w2 ⟨p, rfl, hh, hb2⟩
  have HE := Lib.hid (And.intro hh hb2)
  clear hh hb2 HL
  go_wp2_with fail
  go_ret
  exact ⟨p, rfl, HE.out.1.frm (fun _ _ _ => rfl) (Nat.le_refl _) HB0.out.size, HB0.out.trans (HE.out.2.mono HB0.out.size)⟩
set_option maxRecDepth 100000 in
set_option maxHeartbeats 1000000 in
theorem do_search {O : Nat → Prop} {w : World} {s c : Nat} {fr : Int} {G : List (Th × Lay)} {r : Option Addr} (h : Rep O w s fr G) (hI : IdxAt w) (a b : Ob) (t u : Nat) (hl : SrcO w r [a, b]) (ha : tld G a 6 = some t) (hb : tld G b 6 = some u) (haa : a.acc = 0 ∨ a.acc = 1) (hba : b.acc = 0 ∨ b.acc = 1)
    (hal : ((bytesR G a).length : Int) = a.len) (ha6 : (bytesR G a).length ≤ 65535) (hb6 : (bytesR G b).length ≤ 65535) :
    Calls Tryz.prog 43 #[cv s, .string sSrch, .slice r 2 c] w (SrP w a (bytesR G a) (bytesR G b)) := by
  obtain ⟨B, g, rfl, hblt, hcl⟩ := SrcO.plain (hl.below (below1 w (cvC s))) (by simp)
  obtain ⟨x0, x1, x2, x3, x4, x5, x6, x7⟩ := ob_cells (i := 0) hcl (x := a) rfl
  obtain ⟨y0, y1, y2, y3, y4, y5, y6, y7⟩ := ob_cells (i := 1) hcl (x := b) rfl
  simp only [Nat.zero_mul, Nat.add_zero, Nat.one_mul] at x0 x1 x2 x3 x4 x5 x6 x7 y0 y1 y2 y3 y4 y5 y6 y7
  have hb0 := below1 w (cvC s)
  have HB0 := Lib.hid hb0
  have HL := Lib.hid (fun w2 (h2 : Rep O w2 s fr G) (hI2 : IdxAt w2) => doTwo_search h2 hI2 a b t u ha hb haa hba hal ha6 hb6)
  have HB := Lib.hid (br1 h (cvC s))
  have HI := Lib.hid (hI.below hb0)
  have c0 := cellCv HB.out.1.b0
  unfold cvC at HB HB0 HI x0 x1 x2 x3 x4 x5 x6 x7 y0 y1 y2 y3 y4 y5 y6 y7 c0 hblt
  unfold cv Ob.val SrP at HL
  unfold cv
  generalize bytesR G a = X at *
  generalize bytesR G b = Y at *
  clear h ha hb haa hba hb0 hal ha6 hb6 hI hl hcl
  go_enter Tryz.func43, Tryz.ntmps43
  go_wp2_with fail
  generalize w.alloc (.cells #[.pointer (some ⟨s, 0, none⟩)] 103) = w1 at *
  go_still_tail 8, (by kernel_rfl)
  change wpList _ _ _ _ _ (w1.drewN 1)
  have HB1 := Lib.hid (HB.out.below (w' := w1.drewN 1) ⟨rfl, rfl, rfl, Nat.le_refl _, fun _ _ => rfl⟩)
  have HI1 := Lib.hid (HI.out.below (w2 := w1.drewN 1) ⟨rfl, rfl, rfl, Nat.le_refl _, fun _ _ => rfl⟩)
  have HB2 := Lib.hid (HB0.out.trans (show Below w.heap.size w1 (w1.drewN 1) from ⟨rfl, rfl, rfl, Nat.le_refl _, fun _ _ => rfl⟩))
  go_wp2_with fail
  refine (HL.out _ HB1.out.2 HI1.out).mono ?_; rintro e w2 ⟨p, rfl, hh, hb2⟩
  have HE := Lib.hid (And.intro hh hb2)
  clear hh hb2 HL
  go_wp2_with fail
  go_ret
  exact ⟨p, rfl, HE.out.1.frm (fun _ _ _ => rfl) (Nat.le_refl _) HB2.out.size, HB2.out.trans (HE.out.2.mono HB2.out.size)⟩
/-- Do of search -/
theorem doSearch {O : Nat → Prop} {w : World} {s c : Nat} {fr : Int} {G : List (Th × Lay)} {r : Option Addr} (h : Rep O w s fr G) (hI : IdxAt w) (a b : Ob) (t u : Nat) (hl : SrcO w r [a, b]) (ha : tld G a 6 = some t) (hb : tld G b 6 = some u) (haa : a.acc = 0 ∨ a.acc = 1) (hba : b.acc = 0 ∨ b.acc = 1)
    (hal : ((bytesR G a).length : Int) = a.len) (ha6 : (bytesR G a).length ≤ 65535) (hb6 : (bytesR G b).length ≤ 65535) :
    Calls Tryz.prog 13 #[.pointer (some ⟨s, 0, none⟩), .string sSrch, .slice r 2 c] w fun e w' => Frm O w w' ∧ ∃ p, e = .returned (.tuple #[.slice p (srchL a (bytesR G a) (bytesR G b)).length (srchL a (bytesR G a) (bytesR G b)).length, .int .i64 0]) ∧ Hnd w.heap.size p (srchL a (bytesR G a) (bytesR G b)) w' ∧ Rep O w' s fr G := by
  have hka := (tld_some ha).1
  have hkb := (tld_some hb).1
  have hva : valid G a = true := by unfold valid; rw [hka, if_pos (.inl rfl), ha]; rfl
  have hvb : valid G b = true := by unfold valid; rw [hkb, if_pos (.inl rfl), hb]; rfl
  refine (do_at (l := [a, b]) (Q := fun p n k y w' => y = 0 ∧ n = (srchL a (bytesR G a) (bytesR G b)).length ∧ k = n ∧ Hnd (w.heap.size + 2) p (srchL a (bytesR G a) (bytesR G b)) w' ∧ Rep O w' s fr G) h hl (by simp) ?_ ?_ ?_).mono ?_
  · intro y hy
    simp only [List.mem_cons, List.not_mem_nil, or_false] at hy
    rcases hy with rfl | rfl
    · exact hva
    · exact hvb
  · rintro p n k y w3 w4 hz hf ⟨e1, e2, e3, hh, hr⟩
    exact ⟨e1, e2, e3, hh.frm (fun k hk1 hk2 => hf.block k hk2 (by omega)) hf.size (Nat.le_refl _), hr.same hf.size (fun k hk hO => hf.block k hk (fun e => by have := h.olt k hO; omega))⟩
  · intro w2 hb2 hz2
    refine (do_search (h.below hb2) (hI.below hb2) a b t u (hl.below hb2) ha hb haa hba hal ha6 hb6).mono ?_
    rintro e w3 ⟨p, rfl, hh, hb3⟩
    exact ⟨Frm.of_below hb3, .inl ⟨p, _, _, rfl, rfl, rfl, rfl, hh.frm (fun _ _ _ => rfl) (Nat.le_refl _) hz2, (h.below hb2).below hb3⟩⟩
  · rintro e w' ⟨p, n, k, y, rfl, ⟨rfl, rfl, rfl, hh, hr⟩, hF⟩
    exact ⟨hF, p, rfl, hh.frm (fun _ _ _ => rfl) (Nat.le_refl _) (by omega), hr⟩
end Col
end Go.Proofs.YtmcopfcmnbhaaaaGreat
