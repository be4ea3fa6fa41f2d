/-
  The bytes of two strings: coll's twoTexts, by a contract.
-/
import Derived.Test.YtmcopfcmnbhaaaaGreatColLay
import Derived.Test.YtmcopfcmnbhaaaaGreatStoBytes
import Derived.Deep.RegionHeld3
namespace Go.Proofs.YtmcopfcmnbhaaaaGreat
open Go.RowKit
open St
open Stk
namespace Col
/-- bytes in a new block -/
def NewB (N : Nat) (B : Nat) (l : List UInt8) (w : World) : Prop := N ≤ B ∧ w.heap[B]? = some (.cells (l.map bv).toArray 5 (0, 0))
theorem NewB.below {N B : Nat} {l : List UInt8} {w w' : World} (h : NewB N B l w) (hb : Below w.heap.size w w') : NewB N B l w' := ⟨h.1, (hb.block B (Array.getElem?_eq_some_iff.1 h.2).1).trans h.2⟩
theorem bytes_ok {O : Nat → Prop} {w : World} {s : Nat} {fr : Int} {G : List (Th × Lay)} (h : Rep O w s fr G) (o : Ob) (t : Nat) (ht : tld G o 6 = some t) :
    Calls Tryz.prog 14 #[.pointer (some ⟨s, 0, none⟩), o.val] w fun e w' => ∃ B, e = .returned (.tuple #[.slice (some ⟨B, 0, none⟩) (bytesR G o).length (bytesR G o).length, .int .i64 0]) ∧ NewB w.heap.size B (bytesR G o) w' ∧ Below w.heap.size w w' := by
  refine (bytes_at h o).mono ?_
  rintro e w' ⟨hb, hor⟩
  rcases hor with ⟨hno, _⟩ | ⟨B, h1, _, he, hB⟩
  · rw [ht] at hno; cases hno
  · exact ⟨B, he, ⟨h1, hB⟩, hb⟩
set_option maxRecDepth 100000 in
set_option maxHeartbeats 1000000 in
theorem two_at {O : Nat → Prop} {w : World} {s : Nat} {fr : Int} {G : List (Th × Lay)} (h : Rep O w s fr G) (a b : Ob) (t u : Nat) (ha : tld G a 6 = some t) (hb : tld G b 6 = some u) (haa : a.acc = 0 ∨ a.acc = 1) (hba : b.acc = 0 ∨ b.acc = 1) :
    Calls Tryz.prog 116 #[cv s, a.val, b.val] w fun e w' => ∃ B1 B2, e = .returned (.tuple #[.slice (some ⟨B1, 0, none⟩) (bytesR G a).length (bytesR G a).length, .slice (some ⟨B2, 0, none⟩) (bytesR G b).length (bytesR G b).length]) ∧ NewB w.heap.size B1 (bytesR G a) w' ∧ NewB w.heap.size B2 (bytesR G b) w' ∧ Below w.heap.size w w' := by
  have hka := (tld_some ha).1
  have hkb := (tld_some hb).1
  have HB := Lib.hid (br3 h (cvC s) (obC a) (obC b))
  have HB0 := Lib.hid ((below2 w (cvC s) (obC a)).trans ((below1 ((w.alloc (cvC s)).alloc (obC a)) (obC b)).mono (by simp; omega)))
  have HN := Lib.hid need_ok
  have HRa := Lib.hid (fun w => read_ok s a (by omega) haa w)
  have HRb := Lib.hid (fun w => read_ok s b (by omega) hba w)
  have HYa := Lib.hid (fun w2 (h2 : Rep O w2 s fr G) => bytes_ok h2 a t ha)
  have HYb := Lib.hid (fun w2 (h2 : Rep O w2 s fr G) => bytes_ok h2 b u hb)
  have HS := Lib.hid sureB_ok
  unfold cvC obC at HB HB0
  unfold cv at HRa HRb ⊢
  unfold Ob.val at HRa HRb HYa HYb ⊢
  rw [hka, hkb] at HB HB0
  rw [hka] at HRa HYa
  rw [hkb] at HRb HYb
  rw [hka, hkb]
  generalize bytesR G a = X at *
  generalize bytesR G b = Y at *
  clear h hka hkb ha hb haa hba
  go_enter Tryz.func116, Tryz.ntmps116
  go_wp2_with fail
  refine (HN.out _).mono ?_; rintro e w2 ⟨rfl, rfl⟩
  go_wp2_with fail
  refine (HRa.out _).mono ?_; rintro e w2 ⟨rfl, hb2⟩
  have hK2 := HB.out.below hb2
  have HL2 := Lib.hid (HB0.out.trans (hb2.mono HB0.out.size))
  obtain ⟨x0, x1, x2, x3, x4, x5, x6, x7⟩ := cellsOb hK2.1.b0
  obtain ⟨i0, i1, i2, i3, i4, i5, i6, i7⟩ := cellsOb hK2.1.b1
  have c0 := cellCv hK2.1.b2
  have HK2 := Lib.hid hK2
  clear hb2 hK2 HB HB0
  go_wp2_with fail
  refine (HRb.out _).mono ?_; rintro e w3 ⟨rfl, hb3⟩
  have hK3 := HK2.out.below hb3
  have HL3 := Lib.hid (HL2.out.trans (hb3.mono HL2.out.size))
  clear x0 x1 x2 x3 x4 x5 x6 x7 i0 i1 i2 i3 i4 i5 i6 i7 c0
  obtain ⟨x0, x1, x2, x3, x4, x5, x6, x7⟩ := cellsOb hK3.1.b0
  obtain ⟨i0, i1, i2, i3, i4, i5, i6, i7⟩ := cellsOb hK3.1.b1
  have c0 := cellCv hK3.1.b2
  have HK3 := Lib.hid hK3
  clear hb3 hK3 HK2 HL2
  have HK3d := Lib.hid (HK3.out.below (w' := w3.drew) ⟨rfl, rfl, rfl, Nat.le_refl _, fun _ _ => rfl⟩)
  have HR3d := Lib.hid HK3d.out.2
  have s3 := And.intro (cellCv HK3d.out.1.b2) (And.intro (cellsOb HK3d.out.1.b1) (cellsOb HK3d.out.1.b0))
  clear x0 x1 x2 x3 x4 x5 x6 x7 i0 i1 i2 i3 i4 i5 i6 i7 c0
  go_wp2_with fail
  go_cut [6, 7] (fun p q wx => ∃ B1 B2, p = .slice (some ⟨B1, 0, none⟩) X.length X.length ∧ q = .slice (some ⟨B2, 0, none⟩) Y.length Y.length ∧ NewB w3.heap.size B1 X wx ∧ NewB w3.heap.size B2 Y wx ∧ Below w3.heap.size w3 wx)
  case first =>
    go_region_held3 (fun w' => w'.cell? ⟨w.heap.size, 0, none⟩ = some (.pointer (some ⟨s, 0, none⟩)) ∧ (w'.cell? ⟨w.heap.size + 1, 0, none⟩ = some (.int .i64 6) ∧ w'.cell? ⟨w.heap.size + 1, 1, none⟩ = some (.bool a.exec) ∧ w'.cell? ⟨w.heap.size + 1, 2, none⟩ = some (.int .i64 a.acc) ∧ w'.cell? ⟨w.heap.size + 1, 3, none⟩ = some (.int .i64 a.n) ∧ w'.cell? ⟨w.heap.size + 1, 4, none⟩ = some (.string a.name) ∧ w'.cell? ⟨w.heap.size + 1, 5, none⟩ = some (.int .i64 a.ref) ∧ w'.cell? ⟨w.heap.size + 1, 6, none⟩ = some (.int .i64 a.frm) ∧ w'.cell? ⟨w.heap.size + 1, 7, none⟩ = some (.int .i64 a.len)) ∧ (w'.cell? ⟨w.heap.size + 1 + 1, 0, none⟩ = some (.int .i64 6) ∧ w'.cell? ⟨w.heap.size + 1 + 1, 1, none⟩ = some (.bool b.exec) ∧ w'.cell? ⟨w.heap.size + 1 + 1, 2, none⟩ = some (.int .i64 b.acc) ∧ w'.cell? ⟨w.heap.size + 1 + 1, 3, none⟩ = some (.int .i64 b.n) ∧ w'.cell? ⟨w.heap.size + 1 + 1, 4, none⟩ = some (.string b.name) ∧ w'.cell? ⟨w.heap.size + 1 + 1, 5, none⟩ = some (.int .i64 b.ref) ∧ w'.cell? ⟨w.heap.size + 1 + 1, 6, none⟩ = some (.int .i64 b.frm) ∧ w'.cell? ⟨w.heap.size + 1 + 1, 7, none⟩ = some (.int .i64 b.len)))
      (first | with_reducible exact s3 | with_reducible exact s4 | with_reducible exact s5 | fail)
      (first | (go_at_call 109; (with_reducible refine (HS.out _ _).mono ?_); rintro e wq ⟨rfl, rfl⟩) | (go_at_call 14; (with_reducible refine (HYa.out _ HR3d.out).mono ?_); rintro e w4 ⟨B1, rfl, hn4, hb4⟩; have HK4 := Lib.hid (HK3d.out.below hb4); have HR4 := Lib.hid HK4.out.2; have s4 := And.intro (cellCv HK4.out.1.b2) (And.intro (cellsOb HK4.out.1.b1) (cellsOb HK4.out.1.b0))) | (go_at_call 14; (with_reducible refine (HYb.out _ HR4.out).mono ?_); rintro e w5 ⟨B2, rfl, hn5, hb5⟩; have HK5 := Lib.hid (HK4.out.below hb5); have s5 := And.intro (cellCv HK5.out.1.b2) (And.intro (cellsOb HK5.out.1.b1) (cellsOb HK5.out.1.b0))) | fail)
    all_goals (go_wp2_with fail; go_meet)
    exact ⟨_, _, rfl, rfl, hn4.below hb5, ⟨Nat.le_trans hb4.size hn5.1, hn5.2⟩, (show Below w3.heap.size w3 _ from ⟨hb4.os, hb4.tape, hb4.output, hb4.size, hb4.block⟩).trans (hb5.mono hb4.size)⟩
  case rest =>
  obtain ⟨B1, B2, rfl, rfl, hn1, hn2, hbx⟩ := hcut
  have HE := Lib.hid (And.intro hn1 (And.intro hn2 hbx))
  clear hn1 hn2 hbx s3
  go_wp2_with fail
  have hz := HL3.out.size
  exact bodyPost_ret (v := .tuple #[.slice (some ⟨B1, 0, none⟩) X.length X.length, .slice (some ⟨B2, 0, none⟩) Y.length Y.length]) (by simp [results, Tryz.results116, go_sem]) rfl ⟨B1, B2, rfl, ⟨Nat.le_trans hz HE.out.1.1, HE.out.1.2⟩, ⟨Nat.le_trans hz HE.out.2.1.1, HE.out.2.1.2⟩, HL3.out.trans (HE.out.2.2.mono hz)⟩
end Col
end Go.Proofs.YtmcopfcmnbhaaaaGreat
