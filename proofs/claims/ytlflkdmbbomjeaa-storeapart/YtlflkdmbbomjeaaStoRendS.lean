/-
  The law's text of a string, by a contract: render.
-/
import Derived.Test.YtlflkdmbbomjeaaStoRend
namespace Go.Proofs.Ytlflkdmbbomjeaa
open Go.RowKit
open St
set_option maxRecDepth 100000 in
set_option maxHeartbeats 1000000 in
theorem render_str {O : Nat → Prop} {w : World} {s d : Nat} {fr : Int} {G : List (Th × Lay)} (h : Rep O w s fr G) (hG : Gd G) (o : Ob) (ho : Good o) (hk : o.kind = 6) :
    Calls Try.prog 32 #[.pointer (some ⟨s, 0, none⟩), o.val, .int .i64 d] w fun e w' => e = .returned (.string (rend G d o)) ∧ Below w.heap.size w w' := by
  have hr : rend G d o = ((((rhead o ++ b1 46) ++ dg o.acc.toNat) ++ b1 40) ++ ⟨(bytesR G o).toArray⟩) ++ b1 41 := by
    unfold rend
    rw [if_pos hk]
  rw [hr]
  obtain ⟨N, hN⟩ : ∃ N : Nat, o.acc = N := ⟨o.acc.toNat, by have := ho.a0; omega⟩
  have hn1 := ho.a1
  have HD2 := Lib.hid (fun w => refDec_nat N w (by omega))
  have s2 := dg_mk N (by omega)
  have s3 := bytesR_le hG o
  have HR := Lib.hid (fun w2 (hb : Below w.heap.size w w2) => bytes_at (h.below hb) o)
  rw [show o.acc.toNat = N by omega]
  have hK := hk
  have HD1 := Lib.hid (refDec_nat 6 (w.alloc (obC o)) (by omega))
  rw [show ((6 : Nat) : Int) = 6 from rfl] at HD1
  have HDg := Lib.hid (show dg o.kind.toNat = ⟨(Lib.decDigits 6).toArray⟩ by rw [show o.kind.toNat = 6 by omega]; rfl)
  have cx := cat_ok ⟨(Lib.decDigits 6).toArray⟩ ⟨#[120]⟩ (by have := dg_size 6 (by omega); unfold dg at this; show _ + 1 ≤ _; omega)
  have s1 := rhead_size ho
  have HO := Lib.hid ho
  obtain ⟨kd, ex, ac, nn, nm, rf, fm, ln⟩ := o
  simp only at hK
  subst hK
  unfold obC at HD1
  unfold Ob.val
  simp only at hN
  subst hN
  simp only [Ob.val] at HR
  generalize hbs : bytesR G ⟨6, ex, N, nn, nm, rf, fm, ln⟩ = bs at *
  clear hr ho hn1 h hG hk
  go_enter Try.func32, Try.ntmps32
  go_wp2_with fail
  refine HD1.out.mono ?_; rintro e w1 ⟨rfl, hb⟩
  have hbx := box1 hb
  have HBx := Lib.hid hbx
  have HB1 := Lib.hid (bthen (below1 w _) hb)
  obtain ⟨x0, x1, x2, x3, x4, x5, x6, x7⟩ := cellsOb hbx
  clear hb hbx
  go_upto_if 24 with (fail)
  go_cut [7] (fun s7 wx => RHd w ⟨6, ex, N, nn, nm, rf, fm, ln⟩ s7 wx)
  case first =>
    cases ex with
    | true =>
      go_wp2_with fail
      go_meet
      exact ⟨by unfold rhead; rw [if_pos rfl, HDg.out]; rfl, HBx.out, HB1.out⟩
    | false =>
      go_wp2_with fail
      go_meet
      exact ⟨by unfold rhead; rw [if_neg (by simp), HDg.out], HBx.out, HB1.out⟩
  case rest =>
  obtain ⟨rfl, hbx, hb⟩ := hcut
  clear x0 x1 x2 x3 x4 x5 x6 x7 HBx HB1 HDg cx HD1
  unfold obC at hbx
  obtain ⟨x0, x1, x2, x3, x4, x5, x6, x7⟩ := cellsOb hbx
  obtain ⟨H, hH⟩ : ∃ H, rhead ⟨6, ex, N, nn, nm, rf, fm, ln⟩ = H := ⟨_, rfl⟩
  rw [hH] at s1 ⊢
  have HH := Lib.hid hH
  clear hH
  have hlt : w.heap.size < wc.heap.size := (Array.getElem?_eq_some_iff.1 hbx).1
  have HB := Lib.hid hb
  have HR2 := Lib.hid (HR.out wc hb)
  have HBxc := Lib.hid hbx
  have sB : (⟨bs.toArray⟩ : ByteArray).size ≤ 1000 := by rw [size_mk]; exact s3
  have c1 := cat_ok H ⟨#[46]⟩ (by rw [one_size]; omega)
  have c2 := cat_ok (H ++ ⟨#[46]⟩) ⟨(Lib.decDigits N).toArray⟩ (by rw [cat_size, one_size]; omega)
  have c3 := cat_ok (H ++ ⟨#[46]⟩ ++ ⟨(Lib.decDigits N).toArray⟩) ⟨#[40]⟩ (by rw [cat_size, cat_size, one_size, one_size]; omega)
  have c4 := cat_ok (H ++ ⟨#[46]⟩ ++ ⟨(Lib.decDigits N).toArray⟩ ++ ⟨#[40]⟩) ⟨bs.toArray⟩ (by rw [cat_size, cat_size, cat_size, one_size, one_size]; omega)
  have c5 := cat_ok (H ++ ⟨#[46]⟩ ++ ⟨(Lib.decDigits N).toArray⟩ ++ ⟨#[40]⟩ ++ ⟨bs.toArray⟩) ⟨#[41]⟩ (by rw [cat_size, cat_size, cat_size, cat_size, one_size, one_size, one_size]; omega)
  clear hb hbx s1 s2 s3 HR
  go_wp2_with fail
  refine HR2.out.mono ?_; rintro e w2 hP
  obtain ⟨hb2, hor⟩ := hP
  simp only [hbs] at hor
  have x22 : w2.drew.cell? ⟨w.heap.size, 2, none⟩ = some (.int .i64 N) := (hb2.cell (by exact hlt)).trans x2
  have hlt2 : w.heap.size < w2.drew.heap.size := Nat.lt_of_lt_of_le hlt hb2.size
  have HB2 := Lib.hid (bthen HB.out hb2)
  clear hb2 x0 x1 x2 x3 x4 x5 x6 x7
  rcases hor with ⟨hno, rfl⟩ | ⟨B, hBl, _, rfl, hB⟩
  · have hb0 : bs = [] := by rw [← hbs]; unfold bytesR; rw [hno]
    subst hb0
    have hcv : ∀ W : World, (convert 36 9 (.slice none 0 0)).run Try.prog W = .ok (.string ⟨#[]⟩) W := fun W => conv_nil W
    clear hbs hno
    go_wp2_with fail
    go_region_held3 (fun w' => w'.cell? ⟨w.heap.size, 2, none⟩ = some (.int .i64 N)) (first | with_reducible exact x22 | with_reducible exact z2) (first | (go_at_call 77; refine (HD2.out _).mono ?_; rintro e w3 ⟨rfl, hb3⟩; have z2 : w3.cell? ⟨w.heap.size, 2, none⟩ = some (.int .i64 N) := (hb3.cell hlt2).trans x22))
    all_goals go_wp2_with fail
    all_goals go_ret
    all_goals exact ⟨by rw [HH.out]; rfl, bthen (below_draw HB2.out 1) hb3⟩
  · have HBb := Lib.hid hB
    have hcv : (convert 36 9 (.slice (some ⟨B, 0, none⟩) bs.length bs.length)).run Try.prog w2.drew = .ok (.string ⟨bs.toArray⟩) w2.drew := conv_bytes (w := w2.drew) (c := bs.length) hB
    have hBl2 : B < w2.drew.heap.size := (Array.getElem?_eq_some_iff.1 hB).1
    clear hbs hB
    go_wp2_with fail
    go_region_with (first | (go_at_call 77; refine (HD2.out _).mono ?_; rintro e w3 ⟨rfl, hb3⟩; have z2 : w3.cell? ⟨w.heap.size, 2, none⟩ = some (.int .i64 N) := (hb3.cell hlt2).trans x22; have hcv3 : (convert 36 9 (.slice (some ⟨B, 0, none⟩) bs.length bs.length)).run Try.prog w3 = .ok (.string ⟨bs.toArray⟩) w3 := conv_bytes (w := w3) (c := bs.length) ((hb3.block B hBl2).trans HBb.out)))
    all_goals go_wp2_with fail
    all_goals go_ret
    all_goals exact ⟨by rw [HH.out]; rfl, bthen (below_draw HB2.out 1) hb3⟩
end Go.Proofs.Ytlflkdmbbomjeaa
