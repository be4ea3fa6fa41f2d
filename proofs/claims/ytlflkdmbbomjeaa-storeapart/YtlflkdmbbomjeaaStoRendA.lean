/-
  The law's text of an array, by a contract: render.
-/
import Derived.Test.YtlflkdmbbomjeaaStoRendM
namespace Go.Proofs.Ytlflkdmbbomjeaa
open Go.RowKit
open St
set_option maxRecDepth 100000 in
set_option maxHeartbeats 1000000 in
theorem render_arr {O : Nat → Prop} {w : World} {s d : Nat} {fr : Int} {G : List (Th × Lay)} (h : Rep O w s fr G) (hG : Gd G) (o : Ob) (ho : Good o) (hk : o.kind = 7) (hd : d ≤ 3)
    (IH : ∀ m, d = m + 1 → ∀ (x : Ob) (w : World), Good x → Rep O w s fr G → Calls Try.prog 32 #[.pointer (some ⟨s, 0, none⟩), x.val, .int .i64 m] w fun e w' => e = .returned (.string (rend G m x)) ∧ Below w.heap.size w w') :
    Calls Try.prog 32 #[.pointer (some ⟨s, 0, none⟩), o.val, .int .i64 d] w fun e w' => e = .returned (.string (rend G d o)) ∧ Below w.heap.size w w' := by
  have hr := rend7 G d o hk
  obtain ⟨N, hN⟩ : ∃ N : Nat, o.acc = N := ⟨o.acc.toNat, by have := ho.a0; omega⟩
  have hn1 := ho.a1
  have HD2 := Lib.hid (fun w => refDec_nat N w (by omega))
  have s2 := dg_mk N (by omega)
  have hl3 := itemsR_le hG o
  have HLg := Lib.hid (itemsR_good hG o)
  have HD3 := Lib.hid (fun w => refDec_nat (itemsR G o).length w (by omega))
  have s4 := dg_mk (itemsR G o).length (by omega)
  have HIt := Lib.hid (fun w2 (hb : Below w.heap.size w w2) => items_at (h.below hb) o)
  have HRep := Lib.hid (fun w2 (hb : Below w.heap.size w w2) => h.below hb)
  have HSz := Lib.hid (fun m x => rend_size h hG m x)
  have HIH := Lib.hid IH
  rw [show o.acc.toNat = N by omega] at hr
  have HRe := Lib.hid hr
  have hK := hk
  have HD1 := Lib.hid (refDec_nat 7 (w.alloc (obC o)) (by omega))
  rw [show ((7 : Nat) : Int) = 7 from rfl] at HD1
  have HDg := Lib.hid (show dg o.kind.toNat = ⟨(Lib.decDigits 7).toArray⟩ by rw [show o.kind.toNat = 7 by omega]; rfl)
  have cx := cat_ok ⟨(Lib.decDigits 7).toArray⟩ ⟨#[120]⟩ (by have := dg_size 7 (by omega); unfold dg at this; show _ + 1 ≤ _; omega)
  have s1 := rhead_size ho
  have HO := Lib.hid ho
  obtain ⟨kd, ex, ac, nn, nm, rf, fm, ln⟩ := o
  simp only at hK
  subst hK
  unfold obC at HD1
  unfold Ob.val
  simp only at hN
  subst hN
  simp only [Ob.val] at HIt
  generalize hls : itemsR G ⟨7, ex, N, nn, nm, rf, fm, ln⟩ = ls at *
  clear hr ho hn1 h hG hk IH
  go_enter Try.func32, Try.ntmps32
  go_wp2_with fail
  refine HD1.out.mono ?_; rintro e w1 ⟨rfl, hb⟩
  have hbx := box1 hb
  have HBx := Lib.hid hbx
  have HB1 := Lib.hid (bthen (below1 w _) hb)
  obtain ⟨x0, x1, x2, x3, x4, x5, x6, x7⟩ := cellsOb hbx
  clear hb hbx
  go_upto_if 24 with (fail)
  go_cut [7] (fun s7 wx => RHd w ⟨7, ex, N, nn, nm, rf, fm, ln⟩ s7 wx)
  case first =>
    cases ex with
    | true =>
      go_wp2_with fail
      go_meet
      exact ⟨by unfold rhead; rw [if_pos rfl, HDg.out]; rfl, HBx.out, HB1.out⟩
    | false =>
      go_wp2_with fail
      go_meet
      exact ⟨by unfold rhead; rw [if_neg (by simp), HDg.out], HBx.out, HB1.out⟩
  case rest =>
  obtain ⟨rfl, hbx, hb⟩ := hcut
  clear x0 x1 x2 x3 x4 x5 x6 x7 HBx HB1 HDg cx HD1
  unfold obC at hbx
  obtain ⟨x0, x1, x2, x3, x4, x5, x6, x7⟩ := cellsOb hbx
  obtain ⟨H, hH⟩ : ∃ H, rhead ⟨7, ex, N, nn, nm, rf, fm, ln⟩ = H := ⟨_, rfl⟩
  rw [hH] at s1 ⊢
  have HH := Lib.hid hH
  clear hH
  have hlt : w.heap.size < wc.heap.size := (Array.getElem?_eq_some_iff.1 hbx).1
  have HB := Lib.hid hb
  have HBxc := Lib.hid hbx
  have c1 := cat_ok H ⟨#[46]⟩ (by rw [one_size]; omega)
  have c2 := cat_ok (H ++ ⟨#[46]⟩) ⟨(Lib.decDigits N).toArray⟩ (by rw [cat_size, one_size]; omega)
  have c3 := cat_ok (H ++ ⟨#[46]⟩ ++ ⟨(Lib.decDigits N).toArray⟩) ⟨#[91]⟩ (by rw [cat_size, cat_size, one_size, one_size]; omega)
  have HT0 := Lib.hid (show (H ++ ⟨#[46]⟩ ++ ⟨(Lib.decDigits N).toArray⟩ ++ ⟨#[91]⟩ : ByteArray).size ≤ 100 by rw [cat_size, cat_size, cat_size, one_size, one_size]; omega)
  clear hb hbx s1 s2
  go_wp2_with fail
  refine (HD2.out _).mono ?_; rintro e w2 ⟨rfl, hb2⟩
  have hbx2 := (hb2.block w.heap.size hlt).trans HBxc.out
  clear x0 x1 x2 x3 x4 x5 x6 x7
  obtain ⟨x0, x1, x2, x3, x4, x5, x6, x7⟩ := cellsOb hbx2
  have HIt2 := Lib.hid (HIt.out w2 (bthen HB.out hb2))
  have HB2 := Lib.hid (bthen HB.out hb2)
  clear hb2 hbx2 HIt HBxc
  go_wp2_with fail
  generalize hT : (H ++ ⟨#[46]⟩ ++ ⟨(Lib.decDigits N).toArray⟩ ++ ⟨#[91]⟩ : ByteArray) = T0 at *
  have HTe := Lib.hid hT
  clear hT c1 c2 c3
  refine HIt2.out.mono ?_; rintro e w3 hP
  obtain ⟨hb3, hor⟩ := hP
  simp only [hls] at hor
  have HB3 := Lib.hid (bthen HB2.out hb3)
  clear hb3 x0 x1 x2 x3 x4 x5 x6 x7
  have cE := cat_ok T0 ⟨(Lib.decDigits ls.length).toArray⟩ (by have := HT0.out; omega)
  have cF := cat_ok (T0 ++ ⟨(Lib.decDigits ls.length).toArray⟩) ⟨#[93]⟩ (by rw [cat_size, one_size]; have := HT0.out; omega)
  by_cases hnil : ls = []
  · have hfin : rend G d ⟨7, ex, N, nn, nm, rf, fm, ln⟩ = T0 ++ ⟨(Lib.decDigits 0).toArray⟩ ++ ⟨#[93]⟩ := by
      rw [HRe.out, HH.out, hnil, ← HTe.out]
      cases d <;> rfl
    have HFin := Lib.hid hfin
    subst hnil
    simp only [List.length_nil] at *
    obtain ⟨a, c, ha⟩ : ∃ a c, e = .returned (.tuple #[.slice a 0 c, .int .i64 0]) ∨ e = .returned (.tuple #[.slice a 0 c, .int .i64 21]) := by
      rcases hor with ⟨_, e1⟩ | ⟨B, _, _, e1, _⟩
      · exact ⟨none, 0, .inr e1⟩
      · exact ⟨_, _, .inl e1⟩
    clear hor hfin
    rcases ha with rfl | rfl
    · go_wp2_with fail
      go_loopw [7, 12] (fun s7 s12 wr => s7 = .string T0 ∧ s12 = .int .i64 0 ∧ wr = w3) (fun _ _ _ => 0)
      case atStart => exact ⟨rfl, rfl, rfl⟩
      case round =>
        obtain ⟨rfl, rfl, rfl⟩ := hrel
        go_wp2_with fail
        refine (HD3.out _).mono ?_; rintro e w5 ⟨rfl, hb5⟩
        have HB5 := Lib.hid (bthen HB3.out hb5)
        clear hb5
        go_wp2_with fail
        go_ret
        exact ⟨by rw [HFin.out]; rfl, HB5.out⟩
    · go_wp2_with fail
      go_loopw [7, 12] (fun s7 s12 wr => s7 = .string T0 ∧ s12 = .int .i64 0 ∧ wr = w3) (fun _ _ _ => 0)
      case atStart => exact ⟨rfl, rfl, rfl⟩
      case round =>
        obtain ⟨rfl, rfl, rfl⟩ := hrel
        go_wp2_with fail
        refine (HD3.out _).mono ?_; rintro e w5 ⟨rfl, hb5⟩
        have HB5 := Lib.hid (bthen HB3.out hb5)
        clear hb5
        go_wp2_with fail
        go_ret
        exact ⟨by rw [HFin.out]; rfl, HB5.out⟩
  · have hpos : 0 < ls.length := List.length_pos_iff.2 hnil
    rcases hor with ⟨hno, _⟩ | ⟨B, hBl, _, rfl, hown⟩
    · exact absurd (by rw [← hls]; unfold itemsR; rw [hno]) hnil
    have HOwn := Lib.hid hown
    have hBlt : B < w3.heap.size := owns_lt hown rfl
    clear hown hls hnil
    cases d with
    | zero =>
      have hfin : rend G 0 ⟨7, ex, N, nn, nm, rf, fm, ln⟩ = T0 ++ ⟨(Lib.decDigits ls.length).toArray⟩ ++ ⟨#[93]⟩ := by
        rw [HRe.out, HH.out, ← HTe.out]
        rfl
      have HFin := Lib.hid hfin
      clear hfin
      go_wp2_with fail
      go_loopw [7, 12] (fun s7 s12 wr => s7 = .string T0 ∧ s12 = .int .i64 0 ∧ wr = w3) (fun _ _ _ => 0)
      case atStart => exact ⟨rfl, rfl, rfl⟩
      case round =>
        obtain ⟨rfl, rfl, rfl⟩ := hrel
        go_wp2_with fail
        refine (HD3.out _).mono ?_; rintro e w5 ⟨rfl, hb5⟩
        have HB5 := Lib.hid (bthen HB3.out hb5)
        clear hb5
        go_wp2_with fail
        go_ret
        exact ⟨by rw [HFin.out]; rfl, HB5.out⟩
    | succ m =>
      have hfin : rend G (m + 1) ⟨7, ex, N, nn, nm, rf, fm, ln⟩ = rItems (rend G m) T0 ls ++ ⟨(Lib.decDigits ls.length).toArray⟩ ++ ⟨#[93]⟩ := by
        rw [HRe.out, HH.out, ← HTe.out]
        rfl
      have HFin := Lib.hid hfin
      have hcm := csz_le2 (d := m) (by omega)
      have HCz := Lib.hid (fun x hx => HSz.out m x (HLg.out x hx))
      clear hfin cE cF HSz
      go_wp2_with fail
      go_loopw [7, 12] (fun s7 s12 wr => ∃ i : Nat, s12 = .int .i64 i ∧ i ≤ ls.length ∧ s7 = .string (rItems (rend G m) T0 (ls.take i)) ∧ Below w3.heap.size w3 wr) (fun _ s12 _ => ls.length - (intOf s12).toNat)
      case atStart => exact ⟨0, rfl, Nat.zero_le _, rfl, Below.refl _ _⟩
      case round =>
        obtain ⟨i, rfl, hi, rfl, hbr⟩ := hrel
        have hTi := rItems_size (rend G m) (csz m) (ls.take i) T0 (fun x hx => HCz.out x (List.mem_of_mem_take hx))
        have hTb : (rItems (rend G m) T0 (ls.take i)).size ≤ 130000000000 := by
          have h1 : (ls.take i).length ≤ 300 := by rw [List.length_take]; omega
          have h2 : (ls.take i).length * (csz m + 1) ≤ 300 * (csz m + 1) := Nat.mul_le_mul_right _ h1
          have := HT0.out
          omega
        have HBr := Lib.hid hbr
        by_cases hlti : i < ls.length
        · obtain ⟨x, hx⟩ : ∃ x, ls[i]? = some x := ⟨_, List.getElem?_eq_getElem hlti⟩
          have HSn := Lib.hid (rItems_snoc (rend G m) T0 ls i x hx)
          have hgx := HLg.out x (List.mem_of_getElem? hx)
          have hxs := HCz.out x (List.mem_of_getElem? hx)
          have hcell : ∀ f, f < 8 → wr.cell? ⟨B, i * 8 + f, none⟩ = x.cells[f]? := fun f hf => by
            rw [hbr.cell (by exact hBlt), HOwn.out.cellAt (i * 8 + f) (by omega)]
            exact obs_at ls i f x hx hf
          have x0 : wr.cell? ⟨B, i * 8, none⟩ = some (.int .i64 x.kind) := hcell 0 (by omega)
          have x1 : wr.cell? ⟨B, i * 8 + 1, none⟩ = some (.bool x.exec) := hcell 1 (by omega)
          have x2 : wr.cell? ⟨B, i * 8 + 2, none⟩ = some (.int .i64 x.acc) := hcell 2 (by omega)
          have x3 : wr.cell? ⟨B, i * 8 + 3, none⟩ = some (.int .i64 x.n) := hcell 3 (by omega)
          have x4 : wr.cell? ⟨B, i * 8 + 4, none⟩ = some (.string x.name) := hcell 4 (by omega)
          have x5 : wr.cell? ⟨B, i * 8 + 5, none⟩ = some (.int .i64 x.ref) := hcell 5 (by omega)
          have x6 : wr.cell? ⟨B, i * 8 + 6, none⟩ = some (.int .i64 x.frm) := hcell 6 (by omega)
          have x7 : wr.cell? ⟨B, i * 8 + 7, none⟩ = some (.int .i64 x.len) := hcell 7 (by omega)
          have hii : (i : Int) < (ls.length : Int) := by omega
          have HCall := Lib.hid (HIH.out m rfl x wr hgx (HRep.out wr (bthen HB3.out hbr)))
          unfold Ob.val at HCall
          have k1 := cat_ok (rItems (rend G m) T0 (ls.take i)) (rend G m x) (by omega)
          have k2 := cat_ok (rItems (rend G m) T0 (ls.take i) ++ rend G m x) ⟨#[32]⟩ (by rw [cat_size, one_size]; omega)
          clear hcell hbr hTi hTb hgx hxs hx
          generalize rItems (rend G m) T0 (ls.take i) = Ti at *
          generalize rend G m x = Rx at *
          go_wp2_with fail
          refine HCall.out.mono ?_; rintro e w4 ⟨rfl, hb4⟩
          have HB4 := Lib.hid (bthen HBr.out hb4)
          clear hb4 x0 x1 x2 x3 x4 x5 x6 x7
          go_wp2_with fail
          go_roundw
          case rel => exact ⟨i + 1, by go_num, by omega, by rw [HSn.out]; rfl, HB4.out⟩
          case measure => simp [intOf]; omega
        · have hil : i = ls.length := by omega
          subst hil
          rw [List.take_of_length_le (Nat.le_refl _)] at hTb ⊢
          have cE := cat_ok (rItems (rend G m) T0 ls) ⟨(Lib.decDigits ls.length).toArray⟩ (by omega)
          have cF := cat_ok (rItems (rend G m) T0 ls ++ ⟨(Lib.decDigits ls.length).toArray⟩) ⟨#[93]⟩ (by rw [cat_size, one_size]; omega)
          have HBq := Lib.hid (bthen HB3.out hbr)
          clear hTi hTb hbr
          go_wp2_with fail
          refine (HD3.out _).mono ?_; rintro e w5 ⟨rfl, hb5⟩
          have HB5 := Lib.hid (bthen HBq.out hb5)
          clear hb5
          go_wp2_with fail
          go_ret
          exact ⟨by rw [HFin.out]; rfl, HB5.out⟩
end Go.Proofs.Ytlflkdmbbomjeaa
