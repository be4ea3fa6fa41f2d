/-
  The law's text of a dictionary, by a contract: render.
-/
import Derived.Test.YtlflkdmbbomjeaaStoRendA
namespace Go.Proofs.Ytlflkdmbbomjeaa
open Go.RowKit
open St
theorem sizeV_is (d : Option Th) : ∃ E, sizeV d = .tuple #[.int .i64 (dPairs d).length, .int .i64 (dMost d), .int .i64 E] := by
  cases d with
  | none => exact ⟨21, rfl⟩
  | some y => exact ⟨0, rfl⟩
theorem pairR_is (d : Option Th) (i : Nat) (p : Ob × Ob) (h : (dPairs d)[i]? = some p) : pairR d i = some p := by
  cases d with
  | none => simp [dPairs] at h
  | some y =>
    show (if (0 : Int) ≤ (i : Int) then y.pairs[(i : Int).toNat]? else none) = some p
    rw [if_pos (by omega)]
    exact h
theorem pair_boxes {W : World} {a b : Nat} {k x : Ob} (h1 : W.heap[a]? = some (obC k)) (h2 : W.heap[b]? = some (obC x)) :
    W.cell? ⟨a, 0, none⟩ = some (.int .i64 k.kind) ∧ W.cell? ⟨a, 1, none⟩ = some (.bool k.exec) ∧ W.cell? ⟨a, 2, none⟩ = some (.int .i64 k.acc) ∧ W.cell? ⟨a, 3, none⟩ = some (.int .i64 k.n) ∧ W.cell? ⟨a, 4, none⟩ = some (.string k.name) ∧ W.cell? ⟨a, 5, none⟩ = some (.int .i64 k.ref) ∧ W.cell? ⟨a, 6, none⟩ = some (.int .i64 k.frm) ∧ W.cell? ⟨a, 7, none⟩ = some (.int .i64 k.len) ∧
    W.cell? ⟨b, 0, none⟩ = some (.int .i64 x.kind) ∧ W.cell? ⟨b, 1, none⟩ = some (.bool x.exec) ∧ W.cell? ⟨b, 2, none⟩ = some (.int .i64 x.acc) ∧ W.cell? ⟨b, 3, none⟩ = some (.int .i64 x.n) ∧ W.cell? ⟨b, 4, none⟩ = some (.string x.name) ∧ W.cell? ⟨b, 5, none⟩ = some (.int .i64 x.ref) ∧ W.cell? ⟨b, 6, none⟩ = some (.int .i64 x.frm) ∧ W.cell? ⟨b, 7, none⟩ = some (.int .i64 x.len) :=
  ⟨blk_cell h1 0, blk_cell h1 1, blk_cell h1 2, blk_cell h1 3, blk_cell h1 4, blk_cell h1 5, blk_cell h1 6, blk_cell h1 7, blk_cell h2 0, blk_cell h2 1, blk_cell h2 2, blk_cell h2 3, blk_cell h2 4, blk_cell h2 5, blk_cell h2 6, blk_cell h2 7⟩
/-- between the two texts of a pair: its boxes, and what has not turned -/
structure PB (w w4 W : World) (pk px : Ob) (b : Nat) : Prop where
  bw : Below w.heap.size w W
  b4 : Below w4.heap.size w4 W
  h1 : W.heap[b]? = some (obC pk)
  h2 : W.heap[b + 1]? = some (obC px)
theorem PB.step {w w4 W W' : World} {pk px : Ob} {b : Nat} (h : PB w w4 W pk px b) (hb : Below W.heap.size W W') : PB w w4 W' pk px b :=
  ⟨bthen h.bw hb, bthen h.b4 hb, (hb.block _ (Array.getElem?_eq_some_iff.1 h.h1).1).trans h.h1, (hb.block _ (Array.getElem?_eq_some_iff.1 h.h2).1).trans h.h2⟩
set_option maxRecDepth 100000 in
set_option maxHeartbeats 1000000 in
theorem render_dic {O : Nat → Prop} {w : World} {s d : Nat} {fr : Int} {G : List (Th × Lay)} (h : Rep O w s fr G) (hG : Gd G) (o : Ob) (ho : Good o) (hk : o.kind = 8) (hd : d ≤ 3)
    (IH : ∀ m, d = m + 1 → ∀ (x : Ob) (w : World), Good x → Rep O w s fr G → Calls Try.prog 32 #[.pointer (some ⟨s, 0, none⟩), x.val, .int .i64 m] w fun e w' => e = .returned (.string (rend G m x)) ∧ Below w.heap.size w w') :
    Calls Try.prog 32 #[.pointer (some ⟨s, 0, none⟩), o.val, .int .i64 d] w fun e w' => e = .returned (.string (rend G d o)) ∧ Below w.heap.size w w' := by
  have hr := rend8 G d o hk
  obtain ⟨g1, g2, g3, g4⟩ := dicT_good hG o
  obtain ⟨m1, m2⟩ := dMost_le h o
  obtain ⟨N, hN⟩ : ∃ N : Nat, accV (dicT G o) = N := ⟨(accV (dicT G o)).toNat, by omega⟩
  obtain ⟨Mo, hMo⟩ : ∃ Mo : Nat, dMost (dicT G o) = Mo := ⟨(dMost (dicT G o)).toNat, by omega⟩
  have HD2 := Lib.hid (fun w => refDec_nat N w (by omega))
  have s2 := dg_mk N (by omega)
  have HLg := Lib.hid g2
  have HD3 := Lib.hid (fun w => refDec_nat (dPairs (dicT G o)).length w (by omega))
  have s4 := dg_mk (dPairs (dicT G o)).length (by omega)
  have HD4 := Lib.hid (fun w => refDec_nat Mo w (by omega))
  have s5 := dg_mk Mo (by omega)
  obtain ⟨E, hE⟩ := sizeV_is (dicT G o)
  rw [hMo] at hE
  have HSi := Lib.hid (fun w2 (hb : Below w.heap.size w w2) => size_at (h.below hb) o)
  have HAc := Lib.hid (fun w2 (hb : Below w.heap.size w w2) => access_at (h.below hb) o)
  rw [hE] at HSi
  rw [hN] at HAc
  have hpa : ∀ (w2 : World), Below w.heap.size w w2 → ∀ (i : Nat) (p : Ob × Ob), (dPairs (dicT G o))[i]? = some p → Calls Try.prog 79 #[.pointer (some ⟨s, 0, none⟩), o.val, .int .i64 (i : Int)] w2 fun e w' => e = .returned (pairV (some p)) ∧ Below w2.heap.size w2 w' := fun w2 hb i p hp => by
    have := pair_at (h.below hb) o (i : Int)
    rw [pairR_is _ i p hp] at this
    exact this
  have HPa := Lib.hid hpa
  clear hpa
  have HRep := Lib.hid (fun w2 (hb : Below w.heap.size w w2) => h.below hb)
  have HSz := Lib.hid (fun m x => rend_size h hG m x)
  have HIH := Lib.hid IH
  rw [show (accV (dicT G o)).toNat = N by omega, show (dMost (dicT G o)).toNat = Mo by omega] at hr
  have HRe := Lib.hid hr
  have hK := hk
  have HD1 := Lib.hid (refDec_nat 8 (w.alloc (obC o)) (by omega))
  rw [show ((8 : Nat) : Int) = 8 from rfl] at HD1
  have HDg := Lib.hid (show dg o.kind.toNat = ⟨(Lib.decDigits 8).toArray⟩ by rw [show o.kind.toNat = 8 by omega]; rfl)
  have cx := cat_ok ⟨(Lib.decDigits 8).toArray⟩ ⟨#[120]⟩ (by have := dg_size 8 (by omega); unfold dg at this; show _ + 1 ≤ _; omega)
  have s1 := rhead_size ho
  have HO := Lib.hid ho
  obtain ⟨kd, ex, ac, nn, nm, rf, fm, ln⟩ := o
  simp only at hK
  subst hK
  unfold obC at HD1
  unfold Ob.val
  simp only [Ob.val, pairV] at HSi HAc HPa
  generalize hls : dPairs (dicT G ⟨8, ex, ac, nn, nm, rf, fm, ln⟩) = ls at *
  clear hr ho h hG hk IH hN hMo hE g2 g3 g4 hls
  go_enter Try.func32, Try.ntmps32
  go_wp2_with fail
  refine HD1.out.mono ?_; rintro e w1 ⟨rfl, hb⟩
  have hbx := box1 hb
  have HBx := Lib.hid hbx
  have HB1 := Lib.hid (bthen (below1 w _) hb)
  obtain ⟨x0, x1, x2, x3, x4, x5, x6, x7⟩ := cellsOb hbx
  clear hb hbx
  go_upto_if 24 with (fail)
  go_cut [7] (fun s7 wx => RHd w ⟨8, ex, ac, nn, nm, rf, fm, ln⟩ s7 wx)
  case first =>
    cases ex with
    | true =>
      go_wp2_with fail
      go_meet
      exact ⟨by unfold rhead; rw [if_pos rfl, HDg.out]; rfl, HBx.out, HB1.out⟩
    | false =>
      go_wp2_with fail
      go_meet
      exact ⟨by unfold rhead; rw [if_neg (by simp), HDg.out], HBx.out, HB1.out⟩
  case rest =>
  obtain ⟨rfl, hbx, hb⟩ := hcut
  clear x0 x1 x2 x3 x4 x5 x6 x7 HBx HB1 HDg cx HD1
  unfold obC at hbx
  obtain ⟨x0, x1, x2, x3, x4, x5, x6, x7⟩ := cellsOb hbx
  obtain ⟨H, hH⟩ : ∃ H, rhead ⟨8, ex, ac, nn, nm, rf, fm, ln⟩ = H := ⟨_, rfl⟩
  rw [hH] at s1 ⊢
  have HH := Lib.hid hH
  clear hH
  have hlt : w.heap.size < wc.heap.size := (Array.getElem?_eq_some_iff.1 hbx).1
  have HB := Lib.hid hb
  have HBxc := Lib.hid hbx
  have c1 := cat_ok H ⟨#[46]⟩ (by rw [one_size]; omega)
  have c2 := cat_ok (H ++ ⟨#[46]⟩) ⟨(Lib.decDigits N).toArray⟩ (by rw [cat_size, one_size]; omega)
  have c3 := cat_ok (H ++ ⟨#[46]⟩ ++ ⟨(Lib.decDigits N).toArray⟩) ⟨#[60]⟩ (by rw [cat_size, cat_size, one_size, one_size]; omega)
  have HT0 := Lib.hid (show (H ++ ⟨#[46]⟩ ++ ⟨(Lib.decDigits N).toArray⟩ ++ ⟨#[60]⟩ : ByteArray).size ≤ 100 by rw [cat_size, cat_size, cat_size, one_size, one_size]; omega)
  have HS2 := Lib.hid (HSi.out wc hb)
  clear hb hbx s1 s2 HSi
  go_wp2_with fail
  refine HS2.out.mono ?_; rintro e w2 ⟨rfl, hb2⟩
  have HBx2 := Lib.hid ((hb2.block w.heap.size hlt).trans HBxc.out)
  have HB2 := Lib.hid (bthen HB.out hb2)
  have hlt2 : w.heap.size < w2.heap.size := Nat.lt_of_lt_of_le hlt hb2.size
  have HA2 := Lib.hid (HAc.out w2 (bthen HB.out hb2))
  clear hb2 x0 x1 x2 x3 x4 x5 x6 x7 HBxc HAc
  obtain ⟨x0, x1, x2, x3, x4, x5, x6, x7⟩ := cellsOb HBx2.out
  go_wp2_with fail
  refine HA2.out.mono ?_; rintro e w3 ⟨rfl, hb3⟩
  have HBx3 := Lib.hid ((hb3.block w.heap.size hlt2).trans HBx2.out)
  have HB3 := Lib.hid (bthen HB2.out hb3)
  have hlt3 : w.heap.size < w3.heap.size := Nat.lt_of_lt_of_le hlt2 hb3.size
  clear hb3 x0 x1 x2 x3 x4 x5 x6 x7 HBx2 HA2
  go_wp2_with fail
  refine (HD2.out _).mono ?_; rintro e w4 ⟨rfl, hb4⟩
  have HBx4 := Lib.hid ((hb4.block w.heap.size hlt3).trans HBx3.out)
  have HB4 := Lib.hid (bthen HB3.out hb4)
  have hlt4 : w.heap.size < w4.heap.size := Nat.lt_of_lt_of_le hlt3 hb4.size
  clear hb4 HBx3
  go_wp2_with fail
  generalize hT : (H ++ ⟨#[46]⟩ ++ ⟨(Lib.decDigits N).toArray⟩ ++ ⟨#[60]⟩ : ByteArray) = T0 at *
  have HTe := Lib.hid hT
  clear hT c1 c2 c3
  cases d with
  | zero =>
    have hfin : rend G 0 ⟨8, ex, ac, nn, nm, rf, fm, ln⟩ = T0 ++ ⟨(Lib.decDigits ls.length).toArray⟩ ++ ⟨#[47]⟩ ++ ⟨(Lib.decDigits Mo).toArray⟩ ++ ⟨#[62]⟩ := by
      rw [HRe.out, HH.out, ← HTe.out]
      rfl
    have HFin := Lib.hid hfin
    have cE := cat_ok T0 ⟨(Lib.decDigits ls.length).toArray⟩ (by have := HT0.out; omega)
    have cF := cat_ok (T0 ++ ⟨(Lib.decDigits ls.length).toArray⟩) ⟨#[47]⟩ (by rw [cat_size, one_size]; have := HT0.out; omega)
    have cG := cat_ok (T0 ++ ⟨(Lib.decDigits ls.length).toArray⟩ ++ ⟨#[47]⟩) ⟨(Lib.decDigits Mo).toArray⟩ (by rw [cat_size, cat_size, one_size]; have := HT0.out; omega)
    have cI := cat_ok (T0 ++ ⟨(Lib.decDigits ls.length).toArray⟩ ++ ⟨#[47]⟩ ++ ⟨(Lib.decDigits Mo).toArray⟩) ⟨#[62]⟩ (by rw [cat_size, cat_size, cat_size, one_size, one_size]; have := HT0.out; omega)
    clear hfin
    go_loopw [7, 16] (fun s7 s16 wr => s7 = .string T0 ∧ s16 = .int .i64 0 ∧ wr = w4) (fun _ _ _ => 0)
    case atStart => exact ⟨rfl, rfl, rfl⟩
    case round =>
      obtain ⟨rfl, rfl, rfl⟩ := hrel
      by_cases hl0 : 0 < ls.length
      · go_wp2_with fail
        refine (HD3.out _).mono ?_; rintro e w5 ⟨rfl, hb5⟩
        have HB5 := Lib.hid (bthen HB4.out hb5)
        clear hb5
        go_wp2_with fail
        refine (HD4.out _).mono ?_; rintro e w6 ⟨rfl, hb6⟩
        have HB6 := Lib.hid (bthen HB5.out hb6)
        clear hb6
        go_wp2_with fail
        go_ret
        exact ⟨by rw [HFin.out]; rfl, HB6.out⟩
      · go_wp2_with fail
        refine (HD3.out _).mono ?_; rintro e w5 ⟨rfl, hb5⟩
        have HB5 := Lib.hid (bthen HB4.out hb5)
        clear hb5
        go_wp2_with fail
        refine (HD4.out _).mono ?_; rintro e w6 ⟨rfl, hb6⟩
        have HB6 := Lib.hid (bthen HB5.out hb6)
        clear hb6
        go_wp2_with fail
        go_ret
        exact ⟨by rw [HFin.out]; rfl, HB6.out⟩
  | succ m =>
    have hfin : rend G (m + 1) ⟨8, ex, ac, nn, nm, rf, fm, ln⟩ = rPairs (rend G m) T0 ls ++ ⟨(Lib.decDigits ls.length).toArray⟩ ++ ⟨#[47]⟩ ++ ⟨(Lib.decDigits Mo).toArray⟩ ++ ⟨#[62]⟩ := by
      rw [HRe.out, HH.out, ← HTe.out]
      rfl
    have HFin := Lib.hid hfin
    have hcm := csz_le2 (d := m) (by omega)
    have HCz := Lib.hid (fun p hp => (And.intro (HSz.out m p.1 (HLg.out p hp).1) (HSz.out m p.2 (HLg.out p hp).2) : (rend G m p.1).size ≤ csz m ∧ (rend G m p.2).size ≤ csz m))
    clear hfin HSz
    rw [show ((m + 1 : Nat) : Int) = (m : Int) + 1 by omega]
    go_loopw [7, 16] (fun s7 s16 wr => ∃ i : Nat, s16 = .int .i64 i ∧ i ≤ ls.length ∧ s7 = .string (rPairs (rend G m) T0 (ls.take i)) ∧ Below w4.heap.size w4 wr) (fun _ s16 _ => ls.length - (intOf s16).toNat)
    case atStart => exact ⟨0, rfl, Nat.zero_le _, rfl, Below.refl _ _⟩
    case round =>
      obtain ⟨i, rfl, hi, rfl, hbr⟩ := hrel
      have hTi := rPairs_size (rend G m) (csz m) (ls.take i) T0 (fun x hx => HCz.out x (List.mem_of_mem_take hx))
      have hTb : (rPairs (rend G m) T0 (ls.take i)).size ≤ 260000000000 := by
        have h1 : (ls.take i).length ≤ 300 := by rw [List.length_take]; omega
        have h2 : (ls.take i).length * (csz m + csz m + 2) ≤ 300 * (csz m + csz m + 2) := Nat.mul_le_mul_right _ h1
        have := HT0.out
        omega
      by_cases hlti : i < ls.length
      · obtain ⟨p, hp⟩ : ∃ p, ls[i]? = some p := ⟨_, List.getElem?_eq_getElem hlti⟩
        have HSn := Lib.hid (rPairs_snoc (rend G m) T0 ls i p hp)
        obtain ⟨hg1, hg2⟩ := HLg.out p (List.mem_of_getElem? hp)
        obtain ⟨hz1, hz2⟩ := HCz.out p (List.mem_of_getElem? hp)
        have hbw := bthen HB4.out hbr
        have hbxr := (hbr.block w.heap.size hlt4).trans HBx4.out
        obtain ⟨x0, x1, x2, x3, x4, x5, x6, x7⟩ := cellsOb hbxr
        have HPc := Lib.hid (HPa.out wr hbw i p hp)
        have HC1 := Lib.hid (fun W (b : Nat) (hb : PB w w4 W p.1 p.2 b) => HIH.out m rfl p.1 W hg1 (HRep.out W hb.bw))
        have HC2 := Lib.hid (fun W (b : Nat) (hb : PB w w4 W p.1 p.2 b) => HIH.out m rfl p.2 W hg2 (HRep.out W hb.bw))
        have k1 := cat_ok (rPairs (rend G m) T0 (ls.take i)) (rend G m p.1) (by omega)
        have k2 := cat_ok (rPairs (rend G m) T0 (ls.take i) ++ rend G m p.1) ⟨#[61]⟩ (by rw [cat_size, one_size]; omega)
        have k3 := cat_ok (rPairs (rend G m) T0 (ls.take i) ++ rend G m p.1 ++ ⟨#[61]⟩) (rend G m p.2) (by rw [cat_size, cat_size, one_size]; omega)
        have k4 := cat_ok (rPairs (rend G m) T0 (ls.take i) ++ rend G m p.1 ++ ⟨#[61]⟩ ++ rend G m p.2) ⟨#[32]⟩ (by rw [cat_size, cat_size, cat_size, one_size, one_size]; omega)
        have HBr := Lib.hid hbr
        have HBw := Lib.hid hbw
        obtain ⟨pk, px⟩ := p
        simp only at HPc HC1 HC2 k1 k2 k3 k4 HSn
        unfold Ob.val at HC1 HC2
        clear hTi hTb hg1 hg2 hz1 hz2 hp hbr hbw hbxr
        generalize rPairs (rend G m) T0 (ls.take i) = Ti at *
        generalize hR1 : rend G m pk = R1 at *
        generalize hR2 : rend G m px = R2 at *
        clear hR1 hR2
        go_wp2_with fail
        refine HPc.out.mono ?_; rintro e w5 ⟨rfl, hb5⟩
        have pb0 : PB w w4 ((w5.alloc (obC pk)).alloc (obC px)).drew pk px w5.heap.size :=
          ⟨below_draw (bthen (bthen HBw.out hb5) (below2 w5 (obC pk) (obC px))) 1, below_draw (bthen (bthen HBr.out hb5) (below2 w5 (obC pk) (obC px))) 1, (heap_alloc_old _ _ (by simp)).trans (heap_alloc_new w5 _), alloc_at (by simp)⟩
        have tb := pair_boxes pb0.h1 pb0.h2
        unfold obC at pb0 tb
        clear hb5 x0 x1 x2 x3 x4 x5 x6 x7
        have hwm : IntKind.i64.wrap (m : Int) = (m : Int) := IntWalk.i64_in _ (by omega)
        go_wp2_with fail
        go_region_held3 (fun w' => w'.cell? ⟨w5.heap.size, 0, none⟩ = some (.int .i64 pk.kind) ∧ w'.cell? ⟨w5.heap.size, 1, none⟩ = some (.bool pk.exec) ∧ w'.cell? ⟨w5.heap.size, 2, none⟩ = some (.int .i64 pk.acc) ∧ w'.cell? ⟨w5.heap.size, 3, none⟩ = some (.int .i64 pk.n) ∧ w'.cell? ⟨w5.heap.size, 4, none⟩ = some (.string pk.name) ∧ w'.cell? ⟨w5.heap.size, 5, none⟩ = some (.int .i64 pk.ref) ∧ w'.cell? ⟨w5.heap.size, 6, none⟩ = some (.int .i64 pk.frm) ∧ w'.cell? ⟨w5.heap.size, 7, none⟩ = some (.int .i64 pk.len) ∧ w'.cell? ⟨w5.heap.size + 1, 0, none⟩ = some (.int .i64 px.kind) ∧ w'.cell? ⟨w5.heap.size + 1, 1, none⟩ = some (.bool px.exec) ∧ w'.cell? ⟨w5.heap.size + 1, 2, none⟩ = some (.int .i64 px.acc) ∧ w'.cell? ⟨w5.heap.size + 1, 3, none⟩ = some (.int .i64 px.n) ∧ w'.cell? ⟨w5.heap.size + 1, 4, none⟩ = some (.string px.name) ∧ w'.cell? ⟨w5.heap.size + 1, 5, none⟩ = some (.int .i64 px.ref) ∧ w'.cell? ⟨w5.heap.size + 1, 6, none⟩ = some (.int .i64 px.frm) ∧ w'.cell? ⟨w5.heap.size + 1, 7, none⟩ = some (.int .i64 px.len)) (first | with_reducible exact tb | with_reducible assumption) (first | (go_at_call_of 32 (Ob.kind pk); refine (HC1.out _ w5.heap.size (by assumption)).mono ?_; rintro e w6 ⟨rfl, hb6⟩; have pb6 := PB.step (pk := pk) (px := px) (b := w5.heap.size) (w := w) (w4 := w4) (by assumption) hb6; have t6 := pair_boxes pb6.h1 pb6.h2; clear hb6) | (go_at_call_of 32 (Ob.kind px); refine (HC2.out _ w5.heap.size (by assumption)).mono ?_; rintro e w6 ⟨rfl, hb6⟩; have pb6 := PB.step (pk := pk) (px := px) (b := w5.heap.size) (w := w) (w4 := w4) (by assumption) hb6; have t6 := pair_boxes pb6.h1 pb6.h2; clear hb6))
        · go_wp2_with fail
          go_roundw
          case rel => exact ⟨i + 1, by go_num, by omega, by rw [HSn.out]; rfl, PB.b4 (w := w) (pk := pk) (px := px) (b := w5.heap.size) (by assumption)⟩
          case measure => simp [intOf]; omega
      · have hil : i = ls.length := by omega
        subst hil
        rw [List.take_of_length_le (Nat.le_refl _)] at hTb ⊢
        have cE := cat_ok (rPairs (rend G m) T0 ls) ⟨(Lib.decDigits ls.length).toArray⟩ (by omega)
        have cF := cat_ok (rPairs (rend G m) T0 ls ++ ⟨(Lib.decDigits ls.length).toArray⟩) ⟨#[47]⟩ (by rw [cat_size, one_size]; omega)
        have cG := cat_ok (rPairs (rend G m) T0 ls ++ ⟨(Lib.decDigits ls.length).toArray⟩ ++ ⟨#[47]⟩) ⟨(Lib.decDigits Mo).toArray⟩ (by rw [cat_size, cat_size, one_size]; omega)
        have cI := cat_ok (rPairs (rend G m) T0 ls ++ ⟨(Lib.decDigits ls.length).toArray⟩ ++ ⟨#[47]⟩ ++ ⟨(Lib.decDigits Mo).toArray⟩) ⟨#[62]⟩ (by rw [cat_size, cat_size, cat_size, one_size, one_size]; omega)
        have HBq := Lib.hid (bthen HB4.out hbr)
        clear hTi hTb hbr
        go_wp2_with fail
        refine (HD3.out _).mono ?_; rintro e w5 ⟨rfl, hb5⟩
        have HB5 := Lib.hid (bthen HBq.out hb5)
        clear hb5
        go_wp2_with fail
        refine (HD4.out _).mono ?_; rintro e w6 ⟨rfl, hb6⟩
        have HB6 := Lib.hid (bthen HB5.out hb6)
        clear hb6
        go_wp2_with fail
        go_ret
        exact ⟨by rw [HFin.out]; rfl, HB6.out⟩
end Go.Proofs.Ytlflkdmbbomjeaa
