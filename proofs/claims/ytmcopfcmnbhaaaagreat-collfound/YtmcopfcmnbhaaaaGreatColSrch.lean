/-
  The operator search, by contracts.
-/
import Derived.Test.YtmcopfcmnbhaaaaGreatColTwo
import Derived.Test.YtmcopfcmnbhaaaaGreatColIdx
import Derived.Deep.RegionHeld3
namespace Go.Proofs.YtmcopfcmnbhaaaaGreat
open Go.RowKit
open St
open Stk
namespace Col
/-- the library's Index of two byte rows in memory, from world w on -/
def IdxAt (w : World) : Prop := ∀ (X Y : List UInt8) (B1 B2 : Nat) (w' : World), X.length ≤ 65535 → Y.length ≤ 65535 → w'.heap[B1]? = some (.cells (X.map bv).toArray 5 (0, 0)) → w'.heap[B2]? = some (.cells (Y.map bv).toArray 5 (0, 0)) → Below w.heap.size w w' →
  Calls Tryz.prog 118 #[.slice (some ⟨B1, 0, none⟩) X.length X.length, .slice (some ⟨B2, 0, none⟩) Y.length Y.length] w' fun e w'' => e = .returned (.int .i64 (Lib.index X Y)) ∧ ∃ q, w'' = w'.drewN q
theorem IdxAt.below {w w2 : World} (h : IdxAt w) (hb : Below w.heap.size w w2) : IdxAt w2 := fun X Y B1 B2 w' h1 h2 h3 h4 h5 => h X Y B1 B2 w' h1 h2 h3 h4 (hb.trans (h5.mono hb.size))
theorem partR6 {G : List (Th × Lay)} {o : Ob} {t : Nat} (ht : tld G o 6 = some t) (f n : Int) (h : liesB f n o.len = true) : partR G o f n = (prt o f n, 0) := by
  unfold partR
  rw [if_neg (by rw [ht]; simp), if_pos h]
set_option maxRecDepth 100000 in
theorem behind_at {O : Nat → Prop} {w : World} {s : Nat} {fr : Int} {G : List (Th × Lay)} (h : Rep O w s fr G) (o : Ob) (t : Nat) (ht : tld G o 6 = some t) (f : Nat) (L : Nat) (hL : o.len = L) (hf : f ≤ L) (hL2 : L ≤ 65535) :
    Calls Tryz.prog 119 #[cv s, o.val, .int .i64 f] w fun e w' => e = .returned (prt o f ((L : Int) - f)).val ∧ Below w.heap.size w w' := by
  have hb0 : Below w.heap.size w (((w.alloc (cvC s)).alloc (obC o)).alloc (.cells zeroOb 41)) := (below2 w (cvC s) (obC o)).trans ((below1 ((w.alloc (cvC s)).alloc (obC o)) (.cells zeroOb 41)).mono (by simp; omega))
  have HB := Lib.hid (br3 h (cvC s) (obC o) (.cells zeroOb 41))
  have HB0 := Lib.hid hb0
  have HP := Lib.hid (fun w2 (h2 : Rep O w2 s fr G) => part_at h2 o f ((L : Int) - f))
  rw [partR6 ht _ _ (by rw [liesB_iff, hL]; omega)] at HP
  have HS := Lib.hid (fun w => sureO_ok (prt o f ((L : Int) - f)) w)
  unfold ObE at HP
  unfold cvC obC zeroOb at HB HB0
  simp only [prt, Ob.val] at HP HS
  simp only [cv, prt, Ob.val]
  rw [hL] at HP HB HB0 ⊢
  clear h ht hb0 hL
  go_enter Tryz.func119, Tryz.ntmps119
  go_wp2_with fail
  refine (HP.out _ HB.out.2).mono ?_; rintro e w2 ⟨rfl, hb2⟩
  have HK2 := Lib.hid (HB.out.below hb2)
  have HL2 := Lib.hid (HB0.out.trans (hb2.mono HB0.out.size))
  clear hb2 HB HB0 HP
  go_wp2_with fail
  refine (HS.out _).mono ?_; rintro e w3 ⟨rfl, hb3⟩
  have hK3 := HK2.out.below hb3
  have HL3 := Lib.hid (HL2.out.trans (hb3.mono HL2.out.size))
  have HZ := Lib.hid hK3.1.b0
  obtain ⟨z0, z1, z2, z3, z4, z5, z6, z7⟩ := cellsOb hK3.1.b0
  have zf := blk_free hK3.1.b0
  clear hb3 hK3 HK2 HL2 HS
  go_wp2_with fail
  have hp := put8 HZ.out (.int .i64 o.kind) (.bool o.exec) (.int .i64 o.acc) (.int .i64 o.n) (.string o.name) (.int .i64 o.ref) (.int .i64 (o.frm + f)) (.int .i64 ((L : Int) - f))
  exact bodyPost_ret (results_ob1 Tryz.results119 _ _ (w.heap.size + 1 + 1) rfl hp.blk) rfl ⟨rfl, below_put8 HL3.out (by omega) hp⟩
theorem keepS {w : World} {o : Obj} {A B : Nat} {u v0 v1 v2 v3 v4 v5 v6 v7 : Value} (h : w.cell? ⟨A, 0, none⟩ = some u ∧ (w.cell? ⟨B, 0, none⟩ = some v0 ∧ w.cell? ⟨B, 1, none⟩ = some v1 ∧ w.cell? ⟨B, 2, none⟩ = some v2 ∧ w.cell? ⟨B, 3, none⟩ = some v3 ∧ w.cell? ⟨B, 4, none⟩ = some v4 ∧ w.cell? ⟨B, 5, none⟩ = some v5 ∧ w.cell? ⟨B, 6, none⟩ = some v6 ∧ w.cell? ⟨B, 7, none⟩ = some v7)) : (w.alloc o).cell? ⟨A, 0, none⟩ = some u ∧ ((w.alloc o).cell? ⟨B, 0, none⟩ = some v0 ∧ (w.alloc o).cell? ⟨B, 1, none⟩ = some v1 ∧ (w.alloc o).cell? ⟨B, 2, none⟩ = some v2 ∧ (w.alloc o).cell? ⟨B, 3, none⟩ = some v3 ∧ (w.alloc o).cell? ⟨B, 4, none⟩ = some v4 ∧ (w.alloc o).cell? ⟨B, 5, none⟩ = some v5 ∧ (w.alloc o).cell? ⟨B, 6, none⟩ = some v6 ∧ (w.alloc o).cell? ⟨B, 7, none⟩ = some v7) := by
  have c : ∀ {a : Addr} {v : Value}, w.cell? a = some v → (w.alloc o).cell? a = some v := fun h => (World.cell?_alloc_lt _ _ _ (World.block_lt_of_cell? w _ h)).trans h
  obtain ⟨h, h0, h1, h2, h3, h4, h5, h6, h7⟩ := h
  exact ⟨c h, c h0, c h1, c h2, c h3, c h4, c h5, c h6, c h7⟩
/-- what search hands over -/
def srchL (o : Ob) (X Y : List UInt8) : List Ob := if Lib.index X Y < 0 then [o, boolO false] else [prt o (Lib.index X Y + Y.length) ((X.length : Int) - (Lib.index X Y + Y.length)), prt o (Lib.index X Y) Y.length, prt o 0 (Lib.index X Y), boolO true]
set_option maxRecDepth 100000 in
set_option maxHeartbeats 1000000 in
theorem search_at {O : Nat → Prop} {w : World} {s : Nat} {fr : Int} {G : List (Th × Lay)} (h : Rep O w s fr G) (hI : IdxAt w) (a b : Ob) (t u : Nat) (ha : tld G a 6 = some t) (hb : tld G b 6 = some u) (haa : a.acc = 0 ∨ a.acc = 1) (hba : b.acc = 0 ∨ b.acc = 1)
    (hal : ((bytesR G a).length : Int) = a.len) (ha6 : (bytesR G a).length ≤ 65535) (hb6 : (bytesR G b).length ≤ 65535) :
    Calls Tryz.prog 88 #[cv s, a.val, b.val] w fun e w' => ∃ p, e = .returned (.slice p (srchL a (bytesR G a) (bytesR G b)).length (srchL a (bytesR G a) (bytesR G b)).length) ∧ Hnd w.heap.size p (srchL a (bytesR G a) (bytesR G b)) w' ∧ Below w.heap.size w w' := by
  have hka := (tld_some ha).1
  have hkb := (tld_some hb).1
  have hb0 : Below w.heap.size w (((w.alloc (cvC s)).alloc (obC a)).alloc (obC b)) := (below2 w (cvC s) (obC a)).trans ((below1 ((w.alloc (cvC s)).alloc (obC a)) (obC b)).mono (by simp; omega))
  have HB := Lib.hid (br3 h (cvC s) (obC a) (obC b))
  have HB0 := Lib.hid hb0
  have HT := Lib.hid (fun w2 (h2 : Rep O w2 s fr G) => two_at h2 a b t u ha hb haa hba)
  have HI := Lib.hid hI
  have HH := Lib.hid handed_at
  have HTr := Lib.hid truth_at
  have HLe := Lib.hid (And.intro hal (And.intro ha6 hb6))
  have HBe := Lib.hid (fun w2 (h2 : Rep O w2 s fr G) (f : Nat) (hf : f ≤ (bytesR G a).length) => behind_at h2 a t ha f _ hal.symm hf ha6)
  have HPa := Lib.hid (fun w2 (h2 : Rep O w2 s fr G) (f n : Int) (hf : liesB f n a.len = true) => (by have := part_at h2 a f n; rw [partR6 ha f n hf] at this; exact this : Calls Tryz.prog 16 #[.pointer (some ⟨s, 0, none⟩), a.val, .int .i64 f, .int .i64 n] w2 (ObE (prt a f n, 0) w2)))
  have HSO := Lib.hid (fun o w => sureO_ok o w)
  unfold cvC obC at HB HB0
  unfold cv at HT HBe ⊢
  unfold ObE at HPa
  unfold Ob.val at HT HBe HPa HSO ⊢
  unfold boolO Ob.val at HTr
  rw [hka, hkb] at HB HB0 HT
  rw [hka] at HBe HPa
  rw [hka, hkb]
  have HKa := Lib.hid hka
  generalize bytesR G a = X at *
  generalize bytesR G b = Y at *
  clear h hka hkb ha hb haa hba hb0 hal ha6 hb6 hI
  go_enter Tryz.func88, Tryz.ntmps88
  go_wp2_with fail
  refine (HT.out _ HB.out.2).mono ?_; rintro e w2 ⟨B1, B2, rfl, hn1, hn2, hb2⟩
  have HK2 := Lib.hid (HB.out.below hb2)
  have HL2 := Lib.hid (HB0.out.trans (hb2.mono HB0.out.size))
  have HIx := Lib.hid (HI.out X Y B1 B2 w2 HLe.out.2.1 HLe.out.2.2 hn1.2 hn2.2 HL2.out)
  have hidx := index_spec X Y
  generalize hiv : Lib.index X Y = iv at *
  clear hn1 hn2 hb2 HB HB0 HT HI
  go_wp2_with fail
  refine HIx.out.mono ?_; rintro e w3 ⟨rfl, hq⟩
  have hb3 : Below w2.heap.size w2 w3 := by obtain ⟨q, rfl⟩ := hq; exact ⟨rfl, rfl, rfl, Nat.le_refl _, fun _ _ => rfl⟩
  have hK3 := HK2.out.below hb3
  have HL3 := Lib.hid (HL2.out.trans (hb3.mono HL2.out.size))
  have HK3d := Lib.hid (hK3.below (w' := w3.drew) ⟨rfl, rfl, rfl, Nat.le_refl _, fun _ _ => rfl⟩)
  have HR3d := Lib.hid HK3d.out.2
  have s3 := And.intro (cellCv HK3d.out.1.b2) (cellsOb HK3d.out.1.b1)
  have HIV := Lib.hid hiv
  have lt1 : w.heap.size + 1 < w3.heap.size := (Array.getElem?_eq_some_iff.1 hK3.1.b1).1
  clear hq hb3 hK3 HK2 HL2 HIx hiv
  rcases hidx with ⟨hneg, _⟩ | ⟨i, hpos, hle, _, _⟩
  · have hlt : decide (iv < 0) = true := decide_eq_true (by omega)
    have hsr : srchL a X Y = [a, boolO false] := by unfold srchL; rw [HIV.out, if_pos (by omega)]
    rw [hneg] at hlt ⊢
    have HSr := Lib.hid hsr
    clear hsr hneg
    go_wp2_with fail
    go_cut [6] (fun p wx => ∃ q, p = .slice q 2 2 ∧ Hnd w3.heap.size q [a, boolO false] wx ∧ Below w3.heap.size w3 wx)
    case first =>
      go_region_held3 (fun w' => w'.cell? ⟨w.heap.size, 0, none⟩ = some (.pointer (some ⟨s, 0, none⟩)) ∧ (w'.cell? ⟨w.heap.size + 1, 0, none⟩ = some (.int .i64 6) ∧ w'.cell? ⟨w.heap.size + 1, 1, none⟩ = some (.bool a.exec) ∧ w'.cell? ⟨w.heap.size + 1, 2, none⟩ = some (.int .i64 a.acc) ∧ w'.cell? ⟨w.heap.size + 1, 3, none⟩ = some (.int .i64 a.n) ∧ w'.cell? ⟨w.heap.size + 1, 4, none⟩ = some (.string a.name) ∧ w'.cell? ⟨w.heap.size + 1, 5, none⟩ = some (.int .i64 a.ref) ∧ w'.cell? ⟨w.heap.size + 1, 6, none⟩ = some (.int .i64 a.frm) ∧ w'.cell? ⟨w.heap.size + 1, 7, none⟩ = some (.int .i64 a.len)))
        (first | with_reducible exact s3 | with_reducible exact s4 | with_reducible exact keepS s4 | fail)
        (first | (go_at_call 99; (with_reducible refine (HH.out _ _).mono ?_); rintro e w5 ⟨rfl, rfl⟩) | (go_at_call 113; (with_reducible refine (HTr.out false _).mono ?_); rintro e w4 ⟨rfl, hb4⟩; have HK4 := Lib.hid (HK3d.out.below hb4); have s4 := And.intro (cellCv HK4.out.1.b2) (cellsOb HK4.out.1.b1)) | fail)
      all_goals (go_wp2_with fail; go_meet)
      exact ⟨_, rfl, hnd_of (l := [a, boolO false]) hb4.size (by simp [Ob.cells, HKa.out, boolO]), bthen (show Below w3.heap.size w3 _ from ⟨hb4.os, hb4.tape, hb4.output, hb4.size, hb4.block⟩) (below1 _ _)⟩
    case rest =>
    obtain ⟨q, rfl, hh, hbx⟩ := hcut
    have HE := Lib.hid (And.intro hh hbx)
    clear hh hbx s3
    go_wp2_with fail
    go_ret
    have hz := HL3.out.size
    rw [HSr.out]
    exact ⟨q, rfl, HE.out.1.frm (fun _ _ _ => rfl) (Nat.le_refl _) hz, HL3.out.trans (HE.out.2.mono hz)⟩
  · have hlt : decide ((i : Int) < 0) = false := decide_eq_false (by omega)
    have hsr : srchL a X Y = [prt a ((i : Int) + Y.length) ((X.length : Int) - ((i : Int) + Y.length)), prt a i Y.length, prt a 0 i, boolO true] := by unfold srchL; rw [HIV.out, hpos, if_neg (by omega)]
    rw [hpos]
    have HSr := Lib.hid hsr
    have hle2 := HLe.out.1
    have HBe1 : Hid (∀ w2, Rep O w2 s fr G → Calls Tryz.prog 119 #[.agg #[.pointer (some ⟨s, 0, none⟩)], .agg #[.int .i64 6, .bool a.exec, .int .i64 a.acc, .int .i64 a.n, .string a.name, .int .i64 a.ref, .int .i64 a.frm, .int .i64 a.len], .int .i64 ((i : Int) + (Y.length : Int))] w2 fun e w' => e = .returned (.agg #[.int .i64 6, .bool a.exec, .int .i64 a.acc, .int .i64 a.n, .string a.name, .int .i64 a.ref, .int .i64 (a.frm + ((i : Int) + (Y.length : Int))), .int .i64 ((X.length : Int) - ((i : Int) + (Y.length : Int)))]) ∧ Below w2.heap.size w2 w') := Lib.hid (fun w2 h2 => by
      have := HBe.out w2 h2 (i + Y.length) hle
      rw [Int.natCast_add] at this
      simpa only [prt, HKa.out] using this)
    have HPa1 : Hid (∀ w2, Rep O w2 s fr G → Calls Tryz.prog 16 #[.pointer (some ⟨s, 0, none⟩), .agg #[.int .i64 6, .bool a.exec, .int .i64 a.acc, .int .i64 a.n, .string a.name, .int .i64 a.ref, .int .i64 a.frm, .int .i64 a.len], .int .i64 (i : Int), .int .i64 (Y.length : Int)] w2 fun e w' => e = .returned (.tuple #[.agg #[.int .i64 6, .bool a.exec, .int .i64 a.acc, .int .i64 a.n, .string a.name, .int .i64 a.ref, .int .i64 (a.frm + (i : Int)), .int .i64 (Y.length : Int)], .int .i64 0]) ∧ Below w2.heap.size w2 w') := Lib.hid (fun w2 h2 => by
      have := HPa.out w2 h2 i Y.length (by rw [liesB_iff]; omega)
      simpa only [prt, HKa.out] using this)
    have HPa2 : Hid (∀ w2, Rep O w2 s fr G → Calls Tryz.prog 16 #[.pointer (some ⟨s, 0, none⟩), .agg #[.int .i64 6, .bool a.exec, .int .i64 a.acc, .int .i64 a.n, .string a.name, .int .i64 a.ref, .int .i64 a.frm, .int .i64 a.len], .int .i64 0, .int .i64 (i : Int)] w2 fun e w' => e = .returned (.tuple #[.agg #[.int .i64 6, .bool a.exec, .int .i64 a.acc, .int .i64 a.n, .string a.name, .int .i64 a.ref, .int .i64 a.frm, .int .i64 (i : Int)], .int .i64 0]) ∧ Below w2.heap.size w2 w') := Lib.hid (fun w2 h2 => by
      have := HPa.out w2 h2 0 i (by rw [liesB_iff]; omega)
      simpa only [prt, HKa.out, Int.add_zero] using this)
    have HS1 := Lib.hid (fun w => HSO.out ⟨6, a.exec, a.acc, a.n, a.name, a.ref, a.frm + (i : Int), (Y.length : Int)⟩ w)
    have HS2 := Lib.hid (fun w => HSO.out ⟨6, a.exec, a.acc, a.n, a.name, a.ref, a.frm, (i : Int)⟩ w)
    have hw1 : IntKind.i64.wrap ((i : Int) + (Y.length : Int)) = (i : Int) + (Y.length : Int) := by rw [IntKind.wrap_i64]; have := HLe.out.2.1; omega
    have hlen : a.kind = 6 := HKa.out
    clear hsr hpos HBe HPa HSO
    go_wp2_with fail
    go_cut [6] (fun p wx => ∃ q, p = .slice q 4 4 ∧ Hnd w3.heap.size q [prt a ((i : Int) + Y.length) ((X.length : Int) - ((i : Int) + Y.length)), prt a i Y.length, prt a 0 i, boolO true] wx ∧ Below w3.heap.size w3 wx)
    case first =>
      go_region_held3 (fun w' => w'.cell? ⟨w.heap.size, 0, none⟩ = some (.pointer (some ⟨s, 0, none⟩)) ∧ (w'.cell? ⟨w.heap.size + 1, 0, none⟩ = some (.int .i64 6) ∧ w'.cell? ⟨w.heap.size + 1, 1, none⟩ = some (.bool a.exec) ∧ w'.cell? ⟨w.heap.size + 1, 2, none⟩ = some (.int .i64 a.acc) ∧ w'.cell? ⟨w.heap.size + 1, 3, none⟩ = some (.int .i64 a.n) ∧ w'.cell? ⟨w.heap.size + 1, 4, none⟩ = some (.string a.name) ∧ w'.cell? ⟨w.heap.size + 1, 5, none⟩ = some (.int .i64 a.ref) ∧ w'.cell? ⟨w.heap.size + 1, 6, none⟩ = some (.int .i64 a.frm) ∧ w'.cell? ⟨w.heap.size + 1, 7, none⟩ = some (.int .i64 a.len)))
        (first | with_reducible exact s3 | with_reducible exact s4 | with_reducible exact s5 | with_reducible exact s6 | with_reducible exact s7 | with_reducible exact s8 | with_reducible exact s9 | with_reducible exact keepS s9 | fail)
        (first | (go_at_call 99; (with_reducible refine (HH.out _ _).mono ?_); rintro e w10 ⟨rfl, rfl⟩) | (go_at_call 113; (with_reducible refine (HTr.out true _).mono ?_); rintro e w9 ⟨rfl, hb9⟩; have HK9 := Lib.hid (HK8.out.below hb9); have s9 := And.intro (cellCv HK9.out.1.b2) (cellsOb HK9.out.1.b1)) | (go_at_call 119; (with_reducible refine (HBe1.out _ HR3d.out).mono ?_); rintro e w4 ⟨rfl, hb4⟩; have HK4 := Lib.hid (HK3d.out.below hb4); have HR4 := Lib.hid HK4.out.2; have s4 := And.intro (cellCv HK4.out.1.b2) (cellsOb HK4.out.1.b1)) | (go_at_call 16; (with_reducible refine (HPa1.out _ HR4.out).mono ?_); rintro e w5 ⟨rfl, hb5⟩; have HK5 := Lib.hid (HK4.out.below hb5); have s5 := And.intro (cellCv HK5.out.1.b2) (cellsOb HK5.out.1.b1)) | (go_at_call 100; (with_reducible refine (HS1.out _).mono ?_); rintro e w6 ⟨rfl, hb6⟩; have HK6 := Lib.hid (HK5.out.below hb6); have HR6 := Lib.hid HK6.out.2; have s6 := And.intro (cellCv HK6.out.1.b2) (cellsOb HK6.out.1.b1)) | (go_at_call 16; (with_reducible refine (HPa2.out _ HR6.out).mono ?_); rintro e w7 ⟨rfl, hb7⟩; have HK7 := Lib.hid (HK6.out.below hb7); have s7 := And.intro (cellCv HK7.out.1.b2) (cellsOb HK7.out.1.b1)) | (go_at_call 100; (with_reducible refine (HS2.out _).mono ?_); rintro e w8 ⟨rfl, hb8⟩; have HK8 := Lib.hid (HK7.out.below hb8); have s8 := And.intro (cellCv HK8.out.1.b2) (cellsOb HK8.out.1.b1)) | fail)
      all_goals (go_wp2_with fail; go_meet)
      exact ⟨_, rfl, hnd_of (l := [prt a ((i : Int) + Y.length) ((X.length : Int) - ((i : Int) + Y.length)), prt a i Y.length, prt a 0 i, boolO true]) (Nat.le_trans hb4.size (Nat.le_trans hb5.size (Nat.le_trans hb6.size (Nat.le_trans hb7.size (Nat.le_trans hb8.size hb9.size))))) (by simp [Ob.cells, HKa.out, boolO, prt]; exact HLe.out.1.symm), bthen (bthen (bthen (bthen (bthen (bthen (show Below w3.heap.size w3 _ from ⟨hb4.os, hb4.tape, hb4.output, hb4.size, hb4.block⟩) hb5) hb6) hb7) hb8) hb9) (below1 _ _)⟩
    case rest =>
    obtain ⟨q, rfl, hh, hbx⟩ := hcut
    have HE := Lib.hid (And.intro hh hbx)
    clear hh hbx s3
    go_wp2_with fail
    go_ret
    have hz := HL3.out.size
    rw [HSr.out]
    exact ⟨q, rfl, HE.out.1.frm (fun _ _ _ => rfl) (Nat.le_refl _) hz, HL3.out.trans (HE.out.2.mono hz)⟩
end Col
end Go.Proofs.YtmcopfcmnbhaaaaGreat
