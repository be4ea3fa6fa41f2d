/-
  The operator putinterval of arrays, by contracts.
-/
import Derived.Test.YtmcopfcmnbhaaaaGreatColLay
namespace Go.Proofs.YtmcopfcmnbhaaaaGreat
open Go.RowKit
open St
open Stk
namespace Col
/-- what putinterval leaves -/
def PutI (O : Nat → Prop) (w : World) (s : Nat) (fr : Int) (G : List (Th × Lay)) (t : Nat) (o x : Ob) (f : Int) (e : Ending) (w' : World) : Prop :=
  Frm O w w' ∧ ((liesB f x.len o.len = true ∧ e = .returned (.slice none 0 0) ∧ Rep O w' s fr (putsG G t (o.frm + f).toNat (itemsR G x))) ∨ (liesB f x.len o.len = false ∧ e = gu 11 ∧ Rep O w' s fr G))
theorem isInt_at (n : Int) (h0 : -2147483648 ≤ n) (h1 : n ≤ 2147483647) (w : World) : Calls Tryz.prog 98 #[(intO n).val] w fun y w' => y = .returned (.bool true) ∧ Below w.heap.size w w' := isInt_ok n h0 h1 false 0 0 0 0 ⟨#[]⟩ w
set_option maxRecDepth 100000 in
set_option maxHeartbeats 2000000 in
theorem putI_at {O : Nat → Prop} {w : World} {s : Nat} {fr : Int} {G : List (Th × Lay)} (h : Rep O w s fr G) (o x : Ob) (f : Int) (t u : Nat) (ho : tld G o 7 = some t) (hx : tld G x 7 = some u) (hoa : o.acc = 0) (hxa : x.acc = 0 ∨ x.acc = 1) (h0 : -2147483648 ≤ f) (h1 : f ≤ 2147483647) (hv : ∀ y ∈ itemsR G x, valid G y = true) :
    Calls Tryz.prog 92 #[cv s, o.val, (intO f).val, x.val] w (PutI O w s fr G t o x f) := by
  have hkx := (tld_some hx).1
  have hko := (tld_some ho).1
  have HB := Lib.hid (br4 h (cvC s) (obC o) (obC (intO f)) (obC x))
  have HRow := Lib.hid (fun w => isRow_at o w)
  have HInt := Lib.hid (isInt_at f h0 h1)
  have HN := Lib.hid need_ok
  have HW := Lib.hid (fun w => write_ok s o (by omega) hoa w)
  have HRd := Lib.hid (fun w => read_ok s x (by omega) hxa w)
  have HL : Hid (∀ w2, Rep O w2 s fr G → Calls Tryz.prog 111 #[cv s, x.val, o.val, .int .i64 f] w2 fun e w' => Frm O w2 w' ∧ ((liesB f x.len o.len = true ∧ (∃ v, e = .returned (Ob.val v)) ∧ Rep O w' s fr (putsG G t (o.frm + f).toNat (itemsR G x))) ∨ (liesB f x.len o.len = false ∧ e = gu 11 ∧ Rep O w' s fr G))) := Lib.hid (fun w2 h2 => by
    cases hf : liesB f x.len o.len with
    | true => exact (lay_ok h2 x o f t u ho hx hf hv).mono fun e w' ⟨he, hR, hF⟩ => ⟨hF, .inl ⟨rfl, ⟨_, he⟩, hR⟩⟩
    | false => exact (lay_no h2 x o f t ho hf).mono fun e w' ⟨he, hb⟩ => ⟨Frm.of_below hb, .inr ⟨rfl, he, h2.below hb⟩⟩)
  rw [hko] at HRow
  unfold cvC obC at HB
  unfold cv at HW HRd HL ⊢
  unfold intO at HInt HB ⊢
  unfold Ob.val at HRow HInt HW HRd HL ⊢
  rw [hkx, hko] at HB HL
  rw [hko] at HW HRow
  rw [hkx] at HRd
  rw [hkx, hko]
  unfold gu at HL
  clear h hkx hko ho hx hoa hxa h0 h1 hv
  go_enter Tryz.func92, Tryz.ntmps92
  have HK1 := HB
  clear HB
  go_wp2_with fail
  refine (HRow.out _).mono ?_; rintro e w2 ⟨rfl, hb2⟩
  have hK2 := HK1.out.below hb2
  obtain ⟨x0, x1, x2, x3, x4, x5, x6, x7⟩ := cellsOb hK2.1.b0
  obtain ⟨i0, i1, i2, i3, i4, i5, i6, i7⟩ := cellsOb hK2.1.b1
  obtain ⟨o0, o1, o2, o3, o4, o5, o6, o7⟩ := cellsOb hK2.1.b2
  have c0 := cellCv hK2.1.b3
  have HK2 := Lib.hid hK2
  clear hb2 hK2 HK1
  have hz2 := (Array.getElem?_eq_some_iff.1 HK2.out.1.b0).1
  go_wp2_with fail
  refine (HInt.out _).mono ?_; rintro e w3 ⟨rfl, hb3⟩
  have hK3 := HK2.out.below hb3
  clear x0 x1 x2 x3 x4 x5 x6 x7 i0 i1 i2 i3 i4 i5 i6 i7 o0 o1 o2 o3 o4 o5 o6 o7 c0
  obtain ⟨x0, x1, x2, x3, x4, x5, x6, x7⟩ := cellsOb hK3.1.b0
  obtain ⟨i0, i1, i2, i3, i4, i5, i6, i7⟩ := cellsOb hK3.1.b1
  obtain ⟨o0, o1, o2, o3, o4, o5, o6, o7⟩ := cellsOb hK3.1.b2
  have c0 := cellCv hK3.1.b3
  have HK3 := Lib.hid hK3
  clear hb3 hK3 HK2
  have hz3 := (Array.getElem?_eq_some_iff.1 HK3.out.1.b0).1
  go_wp2_with fail
  refine (HN.out _).mono ?_; rintro e w4 ⟨rfl, rfl⟩
  go_wp2_with fail
  refine (HW.out _).mono ?_; rintro e w4 ⟨rfl, hb4⟩
  have hK4 := HK3.out.below hb4
  clear x0 x1 x2 x3 x4 x5 x6 x7 i0 i1 i2 i3 i4 i5 i6 i7 o0 o1 o2 o3 o4 o5 o6 o7 c0
  obtain ⟨x0, x1, x2, x3, x4, x5, x6, x7⟩ := cellsOb hK4.1.b0
  obtain ⟨i0, i1, i2, i3, i4, i5, i6, i7⟩ := cellsOb hK4.1.b1
  obtain ⟨o0, o1, o2, o3, o4, o5, o6, o7⟩ := cellsOb hK4.1.b2
  have c0 := cellCv hK4.1.b3
  have HK4 := Lib.hid hK4
  clear hb4 hK4 HK3
  have hz4 := (Array.getElem?_eq_some_iff.1 HK4.out.1.b0).1
  go_wp2_with fail
  refine (HRd.out _).mono ?_; rintro e w5 ⟨rfl, hb5⟩
  have hK5 := HK4.out.below hb5
  clear x0 x1 x2 x3 x4 x5 x6 x7 i0 i1 i2 i3 i4 i5 i6 i7 o0 o1 o2 o3 o4 o5 o6 o7 c0
  obtain ⟨x0, x1, x2, x3, x4, x5, x6, x7⟩ := cellsOb hK5.1.b0
  obtain ⟨i0, i1, i2, i3, i4, i5, i6, i7⟩ := cellsOb hK5.1.b1
  obtain ⟨o0, o1, o2, o3, o4, o5, o6, o7⟩ := cellsOb hK5.1.b2
  have c0 := cellCv hK5.1.b3
  have HK5 := Lib.hid hK5
  clear hb5 hK5 HK4
  have hz5 := (Array.getElem?_eq_some_iff.1 HK5.out.1.b0).1
  go_wp2_with fail
  refine (HL.out _ HK5.out.2).mono ?_; rintro e w6 ⟨hF, hor⟩
  have HF := Lib.hid (HK5.out.1.frm hF).1
  clear x0 x1 x2 x3 x4 x5 x6 x7 i0 i1 i2 i3 i4 i5 i6 i7 o0 o1 o2 o3 o4 o5 o6 o7 c0
  rcases hor with ⟨hf, ⟨v, rfl⟩, hR⟩ | ⟨hf, rfl, hR⟩
  · have HE := Lib.hid (And.intro hf hR)
    clear hf hR hF HK5
    go_wp2_with fail
    go_ret
    exact ⟨HF.out, .inl ⟨HE.out.1, rfl, HE.out.2⟩⟩
  · have HE := Lib.hid (And.intro hf hR)
    clear hf hR hF HK5
    go_wp2_with fail
    exact ⟨rfl, HF.out, .inr ⟨HE.out.1, rfl, HE.out.2⟩⟩
def sPutI : ByteArray := ⟨#[112, 117, 116, 105, 110, 116, 101, 114, 118, 97, 108]⟩
set_option maxRecDepth 100000 in
set_option maxHeartbeats 1000000 in
theorem doThree_putI {O : Nat → Prop} {w : World} {s : Nat} {fr : Int} {G : List (Th × Lay)} (h : Rep O w s fr G) (o x : Ob) (f : Int) (t u : Nat) (ho : tld G o 7 = some t) (hx : tld G x 7 = some u) (hoa : o.acc = 0) (hxa : x.acc = 0 ∨ x.acc = 1) (h0 : -2147483648 ≤ f) (h1 : f ≤ 2147483647) (hv : ∀ y ∈ itemsR G x, valid G y = true) :
    Calls Tryz.prog 63 #[cv s, .string sPutI, o.val, (intO f).val, x.val] w (PutI O w s fr G t o x f) := by
  have HB := Lib.hid (br4 h (cvC s) (obC o) (obC (intO f)) (obC x))
  have HL := Lib.hid (fun w2 (h2 : Rep O w2 s fr G) => putI_at h2 o x f t u ho hx hoa hxa h0 h1 hv)
  unfold cvC obC at HB
  unfold cv at HL ⊢
  unfold intO at HL HB ⊢
  unfold Ob.val at HL ⊢
  unfold PutI gu at HL
  unfold sPutI
  clear h ho hx hoa hxa h0 h1 hv
  go_enter Tryz.func63, Tryz.ntmps63
  go_wp2_with fail
  refine (HL.out _ HB.out.2).mono ?_; rintro e w6 ⟨hF, hor⟩
  have HF := Lib.hid (HB.out.1.frm hF).1
  rcases hor with ⟨hf, rfl, hR⟩ | ⟨hf, rfl, hR⟩
  · have HE := Lib.hid (And.intro hf hR)
    clear hf hR hF HB
    go_wp2_with fail
    go_ret
    exact ⟨HF.out, .inl ⟨HE.out.1, rfl, HE.out.2⟩⟩
  · have HE := Lib.hid (And.intro hf hR)
    clear hf hR hF HB
    go_wp2_with fail
    exact ⟨rfl, HF.out, .inr ⟨HE.out.1, rfl, HE.out.2⟩⟩
set_option maxRecDepth 100000 in
set_option maxHeartbeats 1000000 in
theorem do_putI {O : Nat → Prop} {w : World} {s c : Nat} {fr : Int} {G : List (Th × Lay)} {a : Option Addr} (h : Rep O w s fr G) (o x : Ob) (f : Int) (t u : Nat) (hl : SrcO w a [o, intO f, x]) (ho : tld G o 7 = some t) (hx : tld G x 7 = some u) (hoa : o.acc = 0) (hxa : x.acc = 0 ∨ x.acc = 1) (h0 : -2147483648 ≤ f) (h1 : f ≤ 2147483647) (hv : ∀ y ∈ itemsR G x, valid G y = true) :
    Calls Tryz.prog 43 #[cv s, .string sPutI, .slice a 3 c] w (PutI O w s fr G t o x f) := by
  obtain ⟨b, g, rfl, hblt, hcl⟩ := SrcO.plain (hl.below (below1 w (cvC s))) (by simp)
  obtain ⟨x0, x1, x2, x3, x4, x5, x6, x7⟩ := ob_cells (i := 0) hcl (x := o) rfl
  obtain ⟨y0, y1, y2, y3, y4, y5, y6, y7⟩ := ob_cells (i := 1) hcl (x := intO f) rfl
  obtain ⟨z0, z1, z2, z3, z4, z5, z6, z7⟩ := ob_cells (i := 2) hcl (x := x) rfl
  simp only [Nat.zero_mul, Nat.add_zero, Nat.one_mul, Nat.reduceMul] at x0 x1 x2 x3 x4 x5 x6 x7 y0 y1 y2 y3 y4 y5 y6 y7 z0 z1 z2 z3 z4 z5 z6 z7
  have HB := Lib.hid (br1 h (cvC s))
  have HL := Lib.hid (fun w2 (h2 : Rep O w2 s fr G) => doThree_putI h2 o x f t u ho hx hoa hxa h0 h1 hv)
  have c0 := cellCv HB.out.1.b0
  unfold cvC at HB x0 x1 x2 x3 x4 x5 x6 x7 y0 y1 y2 y3 y4 y5 y6 y7 z0 z1 z2 z3 z4 z5 z6 z7 c0 hblt
  unfold cv intO Ob.val PutI gu at HL
  unfold intO at y0 y1 y2 y3 y4 y5 y6 y7
  unfold cv
  clear h ho hx hoa hxa h0 h1 hv hl hcl
  go_enter Tryz.func43, Tryz.ntmps43
  go_wp2_with fail
  generalize w.alloc (.cells #[.pointer (some ⟨s, 0, none⟩)] 103) = w1 at *
  go_still_tail 11, (by kernel_rfl)
  change wpList _ _ _ _ _ (w1.drewN 1)
  have HB1 := Lib.hid (HB.out.below (w' := w1.drewN 1) ⟨rfl, rfl, rfl, Nat.le_refl _, fun _ _ => rfl⟩)
  go_wp2_with fail
  refine (HL.out _ HB1.out.2).mono ?_; rintro e w6 ⟨hF, hor⟩
  have HF := Lib.hid (HB1.out.1.frm hF).1
  rcases hor with ⟨hf, rfl, hR⟩ | ⟨hf, rfl, hR⟩
  · have HE := Lib.hid (And.intro hf hR)
    clear hf hR hF HB
    go_wp2_with fail
    go_ret
    exact ⟨HF.out, .inl ⟨HE.out.1, rfl, HE.out.2⟩⟩
  · have HE := Lib.hid (And.intro hf hR)
    clear hf hR hF HB
    go_wp2_with fail
    exact ⟨rfl, HF.out, .inr ⟨HE.out.1, rfl, HE.out.2⟩⟩
/-- Do of putinterval -/
theorem doPutI {O : Nat → Prop} {w : World} {s c : Nat} {fr : Int} {G : List (Th × Lay)} {a : Option Addr} (h : Rep O w s fr G) (o x : Ob) (f : Int) (t u : Nat) (hl : SrcO w a [o, intO f, x]) (ho : tld G o 7 = some t) (hx : tld G x 7 = some u) (hoa : o.acc = 0) (hxa : x.acc = 0 ∨ x.acc = 1) (h0 : -2147483648 ≤ f) (h1 : f ≤ 2147483647) (hv : ∀ y ∈ itemsR G x, valid G y = true) :
    Calls Tryz.prog 13 #[.pointer (some ⟨s, 0, none⟩), .string sPutI, .slice a 3 c] w fun e w' => Frm O w w' ∧ ((liesB f x.len o.len = true ∧ e = .returned (.tuple #[.slice none 0 0, .int .i64 0]) ∧ Rep O w' s fr (putsG G t (o.frm + f).toNat (itemsR G x))) ∨ (liesB f x.len o.len = false ∧ e = .returned (.tuple #[.slice none 0 0, .int .i64 11]) ∧ Rep O w' s fr G)) := by
  have hko := (tld_some ho).1
  have hkx := (tld_some hx).1
  have hvo : valid G o = true := by unfold valid; rw [hko, if_pos (.inr (.inl rfl)), ho]; rfl
  have hvx : valid G x = true := by unfold valid; rw [hkx, if_pos (.inr (.inl rfl)), hx]; rfl
  have hvf : valid G (intO f) = true := by unfold valid; rw [if_neg (by simp [intO])]
  refine (do_at (l := [o, intO f, x]) (Q := fun p n k y w' => p = none ∧ n = 0 ∧ k = 0 ∧ ((liesB f x.len o.len = true ∧ y = 0 ∧ Rep O w' s fr (putsG G t (o.frm + f).toNat (itemsR G x))) ∨ (liesB f x.len o.len = false ∧ y = 11 ∧ Rep O w' s fr G))) h hl (by simp) ?_ ?_ ?_).mono ?_
  · intro y hy
    simp only [List.mem_cons, List.not_mem_nil, or_false] at hy
    rcases hy with rfl | rfl | rfl
    · exact hvo
    · exact hvf
    · exact hvx
  · rintro p n k y w3 w4 hz hf ⟨e1, e2, e3, hor⟩
    have hsame : ∀ {G'}, Rep O w3 s fr G' → Rep O w4 s fr G' := fun hr => hr.same hf.size (fun k hk hO => hf.block k hk (fun e => by have := h.olt k hO; omega))
    rcases hor with ⟨e4, e5, hr⟩ | ⟨e4, e5, hr⟩
    · exact ⟨e1, e2, e3, .inl ⟨e4, e5, hsame hr⟩⟩
    · exact ⟨e1, e2, e3, .inr ⟨e4, e5, hsame hr⟩⟩
  · intro w2 hb2 hz2
    refine (do_putI (h.below hb2) o x f t u (hl.below hb2) ho hx hoa hxa h0 h1 hv).mono ?_
    rintro e w3 ⟨hF, hor⟩
    rcases hor with ⟨e4, rfl, hr⟩ | ⟨e4, rfl, hr⟩
    · exact ⟨hF, .inl ⟨none, 0, 0, rfl, rfl, rfl, rfl, .inl ⟨e4, rfl, hr⟩⟩⟩
    · exact ⟨hF, .inr ⟨11, rfl, rfl, rfl, rfl, .inr ⟨e4, rfl, hr⟩⟩⟩
  · rintro e w' ⟨p, n, k, y, rfl, ⟨rfl, rfl, rfl, hor⟩, hF⟩
    rcases hor with ⟨e4, rfl, hr⟩ | ⟨e4, rfl, hr⟩
    · exact ⟨hF, .inl ⟨e4, rfl, hr⟩⟩
    · exact ⟨hF, .inr ⟨e4, rfl, hr⟩⟩
end Col
end Go.Proofs.YtmcopfcmnbhaaaaGreat
