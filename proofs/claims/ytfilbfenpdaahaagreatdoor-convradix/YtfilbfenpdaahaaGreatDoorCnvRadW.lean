/-
  The law ConvRadix, walked: a number's digits in a base, with the base and # ahead, are the number again.
-/
import Derived.Test.YtfilbfenpdaahaaGreatDoorCnvRxK
import Derived.Test.YtfilbfenpdaahaaGreatDoorCnvTextsW
namespace Go.Proofs.YtfilbfenpdaahaaGreatDoor
open Go.RowKit
open St
open Stk
open Col
open Cn
open Mm
open Fx Dc
namespace Cv
theorem dec_str (n : Int) (w : World) (h : -9223372036854775808 ≤ n ∧ n ≤ 9223372036854775807) : Calls Tryz.prog 11 #[.int .i64 n] w fun e w' => e = .returned (.string ⟨(Lib.itoa n).toArray⟩) ∧ Below w.heap.size w w' := by
  refine (refDec_all n w h.1 h.2).mono ?_
  rintro e w' ⟨c, rfl, hc, hb⟩
  have e1 : c = ⟨(Lib.itoa n).toArray⟩ := by
    rw [← hc]
  exact ⟨by rw [e1], hb⟩
def threeC (n b : Int) : Array Value := #[.int .i64 1, .bool false, .int .i64 0, .int .i64 n, .string ⟨#[]⟩, .int .i64 0, .int .i64 0, .int .i64 0, .int .i64 1, .bool false, .int .i64 0, .int .i64 b, .string ⟨#[]⟩, .int .i64 0, .int .i64 0, .int .i64 0, .int .i64 6, .bool false, .int .i64 0, .int .i64 0, .string ⟨#[]⟩, .int .i64 1, .int .i64 0, .int .i64 60]
set_option maxRecDepth 100000 in
set_option maxHeartbeats 1000000 in
theorem radix_walk (n base : Int) (hn : -2147483648 ≤ n ∧ n ≤ 2147483647) (hbs : 0 ≤ base ∧ base ≤ 255) (w : World) (ht : Tab w) (htz : TzT w) (hm : Mx w) :
    Calls Tryz.prog 4 #[.int .i32 n, .int .u8 base] w fun e w' => e = .returned (.bool true) ∧ Below w.heap.size w w' := by
  have HA := Lib.hid (fun w2 (hb : Below w.heap.size w w2) => answers10 w2 (Tab.below ht hb))
  have HT := Lib.hid (fun w2 (hb : Below w.heap.size w w2) => Tab.below ht hb)
  have HTz := Lib.hid (fun w2 (hb : Below w.heap.size w w2) => TzT.below htz hb)
  have HM := Lib.hid (fun w2 (hb : Below w.heap.size w w2) => Mx.below hm hb)
  have HN := Lib.hid (new_at 500 w (by decide) (by decide))
  have HI := Lib.hid hn
  have wn : IntKind.i64.wrap n = n := by rw [IntKind.wrap_i64]; omega
  obtain ⟨b, hB⟩ : ∃ b : Nat, base % 35 + 2 = (b : Int) := ⟨(base % 35 + 2).toNat, by omega⟩
  have hb0 : 2 ≤ b := by omega
  have hb1 : b ≤ 36 := by omega
  obtain ⟨hs0, hs1⟩ := hbs
  clear ht htz hm hn
  go_enter Tryz.func4, Tryz.ntmps4
  go_wp2_with fail
  refine HN.out.mono ?_; rintro e w1 ⟨rfl, hr1, hb1'⟩
  have HS := Lib.hid (string60f hr1)
  have HB1 := Lib.hid hb1'
  have HO1 := Lib.hid hr1.olt
  unfold Ob.val rmO at HS
  clear hr1 hb1' HN
  go_wp2_with fail
  refine HS.out.mono ?_; rintro e w2 ⟨rfl, l, hr2, hF2⟩
  obtain ⟨O, hr, hOw⟩ : ∃ O : Nat → Prop, Rep O w2 w.heap.size 491 (gB z60 l) ∧ (∀ q, O q → w.heap.size ≤ q) := by
    refine ⟨_, hr2, fun q hq => ?_⟩
    have hs0 := HB1.out.size
    rcases hq with hq | ⟨hq, _⟩
    · omega
    · omega
  have hB2 : Below w.heap.size w w2 := HB1.out.trans (hF2.below HB1.out.size (fun q hq e => by omega))
  have hb3 := bthen (below1 w2 (obC (rmO 60))) (below1 (w2.alloc (obC (rmO 60))) (.cells (threeC n b) 27))
  have hs3 := (hnd_of (l := [numO 1 n, numO 1 b, rmO 60]) (N := 0) (w := w2.alloc (obC (rmO 60))) (c := threeC n b) (t := 27) (Nat.zero_le _) rfl).src
  rw [show (w2.alloc (obC (rmO 60))).heap.size = w2.heap.size + 1 from by simp] at hs3
  have HD := Lib.hid (do_rx (c := 3) (hr.below hb3) (fun ad e hO => by cases e; have := hr.olt (w2.heap.size + 1) hO; omega) hs3 hb0 hb1 HI.out (HT.out _ (bthen hB2 hb3)) (HTz.out _ (bthen hB2 hb3)))
  have HB3 := Lib.hid (bthen hB2 hb3)
  have HOw := Lib.hid hOw
  unfold rmO s_cvrs threeC at HD
  unfold rmO threeC at HB3
  unfold obC at HD HB3
  clear hr2 hF2 hr hOw hB2 hb3 hs3 HS HB1 HO1
  go_wp2_with fail
  refine HD.out.mono ?_; rintro e w4 ⟨hF4, hr4, p', rfl, hh4⟩
  have HB4 : Hid (Below w.heap.size w w4) := Lib.hid (HB3.out.trans (hF4.below HB3.out.size (fun q hq e => by have := HOw.out q e; omega)))
  have HR4 := Lib.hid hr4
  have HH4 := Lib.hid hh4
  clear hF4 hr4 hh4 HD HB3
  go_wp2_with fail
  refine (HA.out w4 HB4.out).mono ?_; rintro e w5 ⟨rfl, hb5⟩
  have hB5 := bthen HB4.out hb5
  have hr5 := HR4.out.below hb5
  have hs5 := HH4.out.src.below hb5
  obtain ⟨B, f, rfl, hBlt, hcl⟩ := Col.SrcO.plain hs5 (by simp)
  obtain ⟨y0, y1, y2, y3, y4, y5, y6, y7⟩ := ob_cells (i := 0) hcl (x := rmO (rxL b n).length) rfl
  rw [Nat.zero_mul, Nat.add_zero] at y0 y1 y2 y3 y4 y5 y6 y7
  have HY := Lib.hid (bytes_at hr5 (rmO (rxL b n).length))
  have hL60 := rxL_len b HI.out
  have hby : bytesR (gL (rxL b n) l) (rmO (rxL b n).length) = rxL b n := bytes_gB (gL_len hL60)
  unfold BytesP at HY
  rw [hby] at HY
  have htl : tld (gL (rxL b n) l) (rmO (rxL b n).length) 6 = some 0 := by unfold gL; exact tld_gB (gL_len hL60) (by omega) (by omega)
  rw [htl] at HY
  have HR5 := Lib.hid hr5
  have HB5 := Lib.hid hB5
  obtain ⟨L, hL⟩ : ∃ L, rxL b n = L := ⟨_, rfl⟩
  rw [hL] at HY HR5 hL60 y0 y1 y2 y3 y4 y5 y6 y7
  have HL := Lib.hid (And.intro hL hL60)
  unfold Ob.val at HY
  unfold rmO at HY y0 y1 y2 y3 y4 y5 y6 y7
  clear hb5 hB5 hr5 hs5 hcl hBlt HA HB4 HR4 HH4 hby htl hL hL60
  go_wp2_with fail
  refine HY.out.mono ?_; rintro e w6 ⟨hb6, hor⟩
  rcases hor with ⟨hno, _⟩ | ⟨B2, hB2, _, rfl, hrow⟩
  · cases hno
  have hK : RxK O w w.heap.size l L B2 w6 := ⟨bthen HB5.out hb6, HR5.out.below hb6, HOw.out, hrow, fun e => by have := HR5.out.olt _ e; omega⟩
  have HK := Lib.hid hK
  clear hb6 hB2 hrow HY HR5 HB5 hK y0 y1 y2 y3 y4 y5 y6 y7
  by_cases h10 : b = 10
  · have g10 : ((b : Int) == 10) = true := by simp; omega
    have hLn : Lib.itoa n = L := by rw [← HL.out.1, h10]; rfl
    have HDec := Lib.hid (fun w2 => dec_str n w2 (by have := HI.out; omega))
    rw [hLn] at HDec
    clear hLn
    go_upto_region 9 with fail
    have sI := HK.out.cvt
    have sD := (HK.out.below (below_d w6)).cvt
    go_cut [4] (fun v wx => v = .bool true ∧ Below w6.heap.size w6 wx)
    case first =>
      go_region_held (fun w' => (convert 35 9 (.slice (some ⟨B2, 0, none⟩) L.length L.length)).run Tryz.prog w' = .ok (.string ⟨L.toArray⟩) w')
        (first | with_reducible exact sD | with_reducible exact sI | with_reducible exact s7 | fail)
        (first | (go_at_call 11; (with_reducible refine (HDec.out w6.drew).mono ?_); rintro e w7 ⟨rfl, hb7⟩; have s7 := ((HK.out.below (below_d w6)).below hb7).cvt) | fail)
      all_goals go_wp2_with fail
      all_goals go_meet
      exact ⟨rfl, ⟨hb7.os, hb7.tape, hb7.output, hb7.size, hb7.block⟩⟩
    case rest =>
      obtain ⟨rfl, hbx⟩ := hcut
      have HBX := Lib.hid hbx
      clear hbx sI sD
      go_wp2_with fail
      go_ret
      exact ⟨rfl, bthen HK.out.bel HBX.out⟩
  · have g10 : ((b : Int) == 10) = false := by simp; omega
    have hLd : digB false b 33 (u32N n) = L := by rw [← HL.out.1]; unfold rxL; rw [if_neg h10]
    have hl33 : L.length ≤ 33 := by rw [← hLd]; exact digB_len _ _ _ _
    have hd2 : (Lib.decDigits b).length ≤ 2 := decDigits_len 1 b (by omega)
    have htk := tok_rx b (u32N n) hb0 hb1 (u32N_lt n)
    rw [u32N_back n HI.out, hLd] at htk
    have HHd := Lib.hid (digB_head b (u32N n) hb0 hb1 (u32N_lt n))
    rw [hLd] at HHd
    have HDec := Lib.hid (fun w2 => dec_str (b : Int) w2 (by omega))
    rw [Lib.itoa_nonneg b] at HDec
    obtain ⟨c, hc⟩ : ∃ c : ByteArray, c = ⟨(Lib.decDigits b).toArray⟩ := ⟨_, rfl⟩
    have hcs : c.size ≤ 2 := by rw [hc, Cn.u8_size]; exact hd2
    obtain ⟨t, htt⟩ : ∃ t : ByteArray, c ++ ⟨#[35]⟩ ++ ⟨L.toArray⟩ = t := ⟨_, rfl⟩
    obtain ⟨T, hTT⟩ : ∃ T, Lib.decDigits b ++ 35 :: L = T := ⟨_, rfl⟩
    have htl : t.data.toList = T := by
      rw [← htt, ← hTT, data_app, data_app, hc, Cn.u8_len, Cn.u8_len, List.append_assoc]; rfl
    have hT60 : T.length ≤ 60 := by rw [← hTT, List.length_append, List.length_cons]; omega
    rw [hTT] at htk
    rw [← hc] at HDec
    have HTl := Lib.hid (And.intro htl (And.intro hT60 htk))
    have HTx := Lib.hid (fun (O2 : Nat → Prop) (W : World) (h : Rep O2 W w.heap.size 491 (gL L l)) (a : Option Addr) (q : Nat) (hS : Src W a T) => text_rx (c := q) h hS hT60)
    have hls : (⟨L.toArray⟩ : ByteArray).size ≤ 33 := by rw [Cn.u8_size]; exact hl33
    unfold Ob.val txO at HTx
    clear hLd hd2 hc hTT htl hT60 htk
    go_upto_region 10 with fail
    have sI := HK.out.cvt
    have kD := HK.out.below (below_d w6)
    have sD := kD.cvt
    have kA := HK.out.alloc.below (below_d _)
    unfold obC nul at kA
    have sA := kA.cvt
    have KD := Lib.hid kD
    have KA := Lib.hid kA
    clear kD kA
    go_cut [14, 15] (fun v u wx => ∃ O' P, v = .pointer (some ⟨P, 0, none⟩) ∧ u = .int .i64 0 ∧ RxN O' w w.heap.size l L T B2 P (txO T) wx)
    case first =>
      go_region_held (fun w' => (convert 35 9 (.slice (some ⟨B2, 0, none⟩) L.length L.length)).run Tryz.prog w' = .ok (.string ⟨L.toArray⟩) w')
        (first | with_reducible exact sD | with_reducible exact sI | with_reducible exact sA | with_reducible exact s7 | with_reducible exact s7a | with_reducible exact s8 | with_reducible exact s8a | with_reducible exact s8b | with_reducible exact s9 | with_reducible exact M9.out.cvtA _ | with_reducible exact N9.out.cvt8 _ _ _ _ _ _ _ _ | fail)
        (first | (go_at_call 11; (with_reducible refine (HDec.out w6.drew).mono ?_); rintro e w7 ⟨rfl, hb7⟩; have k7 := KD.out.below hb7; have s7 := k7.cvt; have s7a := k7.cvtA (.cells #[.int .i64 0, .bool false, .int .i64 0, .int .i64 0, .string ⟨#[]⟩, .int .i64 0, .int .i64 0, .int .i64 0] 27); obtain ⟨a8, c8, w8, hcv8, hS8, hb8⟩ := s2bx w7 t HTl.out.1; have k8 := k7.below hb8; have s8 := k8.cvt; have s8a := k8.cvtA (.cells #[.int .i64 0, .bool false, .int .i64 0, .int .i64 0, .string ⟨#[]⟩, .int .i64 0, .int .i64 0, .int .i64 0] 27); obtain ⟨a8', c8', w8', hcv8', hS8', hb8'⟩ := s2bx (w7.alloc (.cells #[.int .i64 0, .bool false, .int .i64 0, .int .i64 0, .string ⟨#[]⟩, .int .i64 0, .int .i64 0, .int .i64 0] 27)) t HTl.out.1; have k8' := k7.alloc.below hb8'; have s8b := k8'.cvt; have K8 := Lib.hid (And.intro k8 hS8); have K8a := Lib.hid (And.intro k8.alloc (hS8.below (below1 w8 (.cells #[.int .i64 0, .bool false, .int .i64 0, .int .i64 0, .string ⟨#[]⟩, .int .i64 0, .int .i64 0, .int .i64 0] 27)))); have K8b := Lib.hid (And.intro k8' hS8'); clear k7 k8 k8' hS8 hS8' hb8 hb8') | (go_at_call 11; (refine (HDec.out _).mono ?_); rintro e w7 ⟨rfl, hb7⟩; have k7 := KA.out.below hb7; have s7 := k7.cvt; obtain ⟨a8, c8, w8, hcv8, hS8, hb8⟩ := s2bx w7 t HTl.out.1; have k8 := k7.below hb8; have s8 := k8.cvt; have K8n := Lib.hid (And.intro k8 hS8); clear k7 k8 hS8 hb8) | (go_at_call 12; (with_reducible refine (HTx.out _ w8 K8.out.1.rep _ _ K8.out.2).mono ?_); rintro e w9 ⟨rfl, hq⟩; have M9 := Lib.hid (K8.out.1.text hq); have s9 := M9.out.cvt) | (go_at_call 12; (with_reducible refine (HTx.out _ w8 K8n.out.1.k.rep _ _ K8n.out.2).mono ?_); rintro e w9 ⟨rfl, hq⟩; have N9 := Lib.hid (K8n.out.1.text hq); have s9 := N9.out.m.cvt; have hz := N9.out.box; unfold obC nul at hz; obtain ⟨r0, r1, r2, r3, r4, r5, r6, r7⟩ := cellsOb hz; have rf := blk_free hz) | (go_at_call 12; (with_reducible refine (HTx.out _ w8' K8b.out.1.k.rep _ _ K8b.out.2).mono ?_); rintro e w9 ⟨rfl, hq⟩; have N9 := Lib.hid (K8b.out.1.text hq); have s9 := N9.out.m.cvt; have hz := N9.out.box; unfold obC nul at hz; obtain ⟨r0, r1, r2, r3, r4, r5, r6, r7⟩ := cellsOb hz; have rf := blk_free hz) | (go_at_call 12; (with_reducible refine (HTx.out _ (w8.alloc (.cells #[.int .i64 0, .bool false, .int .i64 0, .int .i64 0, .string ⟨#[]⟩, .int .i64 0, .int .i64 0, .int .i64 0] 27)) K8a.out.1.k.rep _ _ K8a.out.2).mono ?_); rintro e w9 ⟨rfl, hq⟩; have N9 := Lib.hid (K8a.out.1.text hq); have s9 := N9.out.m.cvt; have hz := N9.out.box; unfold obC nul at hz; obtain ⟨r0, r1, r2, r3, r4, r5, r6, r7⟩ := cellsOb hz; have rf := blk_free hz) | fail)
      all_goals go_wp2_with fail
      all_goals go_meet
      all_goals (first | exact ⟨_, _, rfl, rfl, M9.out.alloc (txO T)⟩ | exact ⟨_, _, rfl, rfl, N9.out.put (put8 hz _ _ _ _ _ _ _ _)⟩)
    case rest =>
      obtain ⟨O', P, rfl, rfl, hN⟩ := hcut
      obtain ⟨l2, fr, hr⟩ := hN.m.rep
      have hbox := hN.box
      unfold obC txO at hbox
      obtain ⟨x0, x1, x2, x3, x4, x5, x6, x7⟩ := cellsOb hbox
      have hb11 := below1 wc (obC (txO T))
      have hs11 : SrcO (wc.alloc (obC (txO T))) (some ⟨wc.heap.size, 0, none⟩) [txO T] := (hnd_of (l := [txO T]) (N := 0) (w := wc) (c := _) (t := 27) (Nat.zero_le _) rfl).src
      have HD2 := Lib.hid (do_back (c := 1) (hr.below hb11) hs11 HTl.out.2.1 HTl.out.2.2 (HM.out _ (bthen hN.m.bel hb11)))
      have HB11 := Lib.hid (bthen hN.m.bel hb11)
      have HR11 := Lib.hid ((hb11.block _ (Array.getElem?_eq_some_iff.1 hN.m.row).1).trans hN.m.row)
      have HOo := Lib.hid (And.intro hN.m.own hN.m.out)
      unfold s_cvi at HD2
      unfold txO at HD2 HB11 HR11
      unfold obC at HD2 HB11 HR11
      clear hr hbox hb11 hs11 hN sI sD sA KD KA HK HDec HTx
      go_wp2_with fail
      refine HD2.out.mono ?_; rintro e w12 ⟨hF12, _, p2, rfl, hh12⟩
      have HB12 : Hid (Below w.heap.size w w12) := Lib.hid (HB11.out.trans (hF12.below HB11.out.size (fun q hq e => by have := HOo.out.1 q e; omega)))
      have hrow := (hF12.block _ (Array.getElem?_eq_some_iff.1 HR11.out).1 HOo.out.2).trans HR11.out
      obtain ⟨B3, f3, rfl, _, hcl3⟩ := Col.SrcO.plain hh12.src (by simp)
      obtain ⟨z0, z1, z2, z3, z4, z5, z6, z7⟩ := ob_cells (i := 0) hcl3 (x := numO 1 n) rfl
      rw [Nat.zero_mul, Nat.add_zero] at z0 z1 z2 z3 z4 z5 z6 z7
      unfold numO at z0 z1 z2 z3 z4 z5 z6 z7
      obtain ⟨c0, t0, hct, hor⟩ := HHd.out
      have d0 : w12.cell? ⟨B2, 0, none⟩ = some (.int .u8 c0.toNat) := by
        unfold rowX at hrow
        rw [blk_cell hrow 0, hct]; rfl
      have hl0 : (0 : Int) < (L.length : Int) := by rw [hct, List.length_cons]; omega
      clear hF12 hrow hh12 hcl3 x0 x1 x2 x3 x4 x5 x6 x7 HD2 HB11 HR11 HOo
      by_cases hne : t0 = []
      · have g1 : ((L.length : Int) == 1) = true := by rw [hct, hne]; rfl
        clear hct hor hne
        go_wp2_with fail
        go_ret
        exact ⟨rfl, HB12.out⟩
      · have g1 : ((L.length : Int) == 1) = false := by
          have : 0 < t0.length := List.length_pos_iff.2 hne
          rw [hct]; simp; omega
        have g3 : ((c0.toNat : Int) != 48) = true := by
          have h48 : c0 ≠ 48 := hor.resolve_left hne
          have : c0.toNat ≠ 48 := fun e => h48 (UInt8.toNat_inj.1 (by rw [e]; rfl))
          simp; omega
        clear hct hor hne
        go_wp2_with fail
        go_ret
        exact ⟨rfl, HB12.out⟩
end Cv
end Go.Proofs.YtfilbfenpdaahaaGreatDoor
