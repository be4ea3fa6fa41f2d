/-
  The walk of the law DecPowers: a power moves the point.
-/
import Derived.Test.YtibkgkjijhcnoaaDoorDecPowM
import Derived.Deep.QuietTactic
import Derived.BigQuiet
import Derived.Deep.DeepCutAuto
namespace Go.Proofs.YtibkgkjijhcnoaaDoor
open Go.RowKit
open Fx Dc
theorem udec_at (z : Int) (n : Nat) (hz : z = n) (w : World) (h : n < 18446744073709551616) :
    Calls Tryd.prog 39 #[.int .u64 z] w fun e w' => e = .returned (.string ⟨(Lib.decDigits n).toArray⟩) ∧ Below w.heap.size w w' := by
  subst hz; exact udec_any n w h
theorem refDec_neg (n : Nat) (w : World) (h1 : 1 ≤ n) (h : n ≤ 32768) :
    Calls Tryd.prog 19 #[.int .i64 (-(n : Int))] w (StrB (45 :: Lib.decDigits n) w) := by
  have hng : decide (-(n : Int) < 0) = true := decide_eq_true (by omega)
  have hlen := decDigits_len 4 n (by omega)
  go_enter Tryd.func19, Tryd.ntmps19
  go_wp2_with fail
  refine (udec_at _ n (by omega) _ (by omega)).mono ?_; rintro e w' ⟨rfl, hb⟩
  have HB := Lib.hid hb; clear hb
  have hsz : ({ data := (Lib.decDigits n).toArray } : ByteArray).size ≤ 5 := by rw [size_list]; exact hlen
  go_wp2_with fail
  go_ret
  exact ⟨_, rfl, by rw [data_app]; rfl, HB.out⟩
def PwRel (u k : Nat) (s : Value) : Prop := ∃ (z : Nat) (b : ByteArray), z ≤ k + 1 ∧ s = .string b ∧ b.data.toList = List.replicate z 48 ++ Lib.decDigits u
theorem zeros_four (k : Nat) (hk : k ≤ 4) (z : ByteArray) (hz : (⟨#[48, 48, 48, 48]⟩ : ByteArray).extract 0 k = z) : z.data.toList = List.replicate k 48 ∧ z.size ≤ 4 := by
  subst hz
  have : k = 0 ∨ k = 1 ∨ k = 2 ∨ k = 3 ∨ k = 4 := by omega
  rcases this with rfl | rfl | rfl | rfl | rfl <;> exact ⟨by decide, by decide⟩
theorem decToken_is (t : ByteArray) (v : Int) (hts : t.size ≤ 3000) (w : World) (hm : Mx w) (h : tokR t.data.toList = (2, v, true, 0)) :
    Calls Tryd.prog 16 #[.string t] w fun e w' => e = .returned (.tuple #[.agg #[.int .i64 2, .int .i64 v, .string ⟨#[]⟩], .bool true, .int .i64 0]) ∧ Below w.heap.size w w' := by
  have h5 := decToken_any t hts w hm
  rw [h] at h5
  exact h5
def tokB (w : World) (v : Int) : World := w.alloc (Obj.cells #[.int .i64 2, .int .i64 v, .string ⟨#[]⟩] 29)
def TokIn (w : World) (q : Nat) (v : Int) : Prop :=
  q < w.heap.size ∧ w.cell? ⟨q, 0, none⟩ = some (.int .i64 2) ∧ w.cell? ⟨q, 1, none⟩ = some (.int .i64 v) ∧ w.cell? ⟨q, 2, none⟩ = some (.string ⟨#[]⟩)
theorem TokIn.below {w w' : World} {q : Nat} {v : Int} (h : TokIn w q v) (hb : Below w.heap.size w w') : TokIn w' q v := by
  obtain ⟨h0, h1, h2, h3⟩ := h
  have hs := hb.size
  refine ⟨by omega, ?_, ?_, ?_⟩
  · rw [(bcell hb).1 _ _ h0]; exact h1
  · rw [(bcell hb).1 _ _ h0]; exact h2
  · rw [(bcell hb).1 _ _ h0]; exact h3
def TokAt (w0 : World) (v : Int) (s t e : Value) (w : World) : Prop :=
  ∃ q : Nat, s = .pointer (some ⟨q, 0, none⟩) ∧ t = .bool true ∧ e = .int .i64 0 ∧ TokIn w q v ∧ Below w0.heap.size w0 w
theorem tokB_size (w : World) (v : Int) : (tokB w v).heap.size = w.heap.size + 1 := by simp [tokB]
theorem tok_cells_d {w w1 : World} {v : Int} (hb : Below (tok0 (tokB w v)).drew.heap.size (tok0 (tokB w v)).drew w1) :
    w1.cell? ⟨w.heap.size + 1, 0, none⟩ = some (.int .i64 0) ∧ w1.cell? ⟨w.heap.size + 1, 1, none⟩ = some (.int .i64 0) ∧ w1.cell? ⟨w.heap.size + 1, 2, none⟩ = some (.string ⟨#[]⟩) ∧ (∀ o, w1.frozen? ⟨w.heap.size + 1, o, none⟩ = false) := by
  have h := tok_cells (w := tokB w v) ((below_draws (tok0 (tokB w v)) 1).trans (hb.mono (by exact Nat.le_refl _)))
  rw [tokB_size] at h; exact h
theorem tokB_in (w : World) (v : Int) : TokIn (tokB w v) w.heap.size v := by
  refine ⟨by rw [tokB_size]; omega, ?_, ?_, ?_⟩ <;> (unfold tokB; simp [go_sem])
theorem tokB_below {w w' : World} (hb : Below w.heap.size w w') (v : Int) : Below w.heap.size w (tokB w' v) := hb.alloc hb.size _
theorem tokAt_1 {w w1 : World} {v : Int} (hb : Below (tokB w v).drew.heap.size (tokB w v).drew w1) : TokAt (tokB w v) v (.pointer (some ⟨w1.heap.size, 0, none⟩)) (.bool true) (.int .i64 0) (tokB w1 v) := by
  have h1 : Below (tokB w v).heap.size (tokB w v) w1 := (below_draws (tokB w v) 1).trans (hb.mono (by exact Nat.le_refl _))
  exact ⟨_, rfl, rfl, rfl, tokB_in _ _, tokB_below h1 v⟩
theorem tokAt_2 {w w1 : World} {v : Int} (hb : Below (tok0 (tokB w v)).drew.heap.size (tok0 (tokB w v)).drew w1) : TokAt (tokB w v) v (.pointer (some ⟨w.heap.size + 1, 0, none⟩)) (.bool true) (.int .i64 0)
    (((w1.setCell ⟨w.heap.size + 1, 0, none⟩ (.int .i64 2)).setCell ⟨w.heap.size + 1, 1, none⟩ (.int .i64 v)).setCell ⟨w.heap.size + 1, 2, none⟩ (.string ⟨#[]⟩)) := by
  have h1 : Below (tok0 (tokB w v)).heap.size (tok0 (tokB w v)) w1 := (below_draws (tok0 (tokB w v)) 1).trans (hb.mono (by exact Nat.le_refl _))
  have h2 := tok_back h1 (.int .i64 2) (.int .i64 v) (.string ⟨#[]⟩)
  obtain ⟨t0, t1, t2, _⟩ := tok_cells_d hb
  obtain ⟨q0, q1, q2⟩ := tok_put t0 t1 t2 (.int .i64 2) (.int .i64 v) (.string ⟨#[]⟩)
  have hs := h1.size
  rw [tok0_size] at hs
  rw [tokB_size] at h2 hs
  refine ⟨_, rfl, rfl, rfl, ⟨by simp; omega, q0, q1, q2⟩, ?_⟩
  rw [tokB_size]; exact h2
set_option maxRecDepth 100000 in
set_option maxHeartbeats 1000000 in
theorem pow_pos (u : Nat) (hu : u ≤ 32767) (by_ : Int) (hb0 : 0 ≤ by_) (hb1 : by_ ≤ 255) (w : World) (ht : Tab w) (hm0 : Mx w) :
    Calls Tryd.prog 8 #[.int .i16 (u : Int), .int .u8 by_] w fun e w' => e = .returned (.bool true) ∧ Below w.heap.size w w' := by
  obtain ⟨k, hk⟩ : ∃ k : Nat, by_ % 5 = (k : Int) := ⟨(by_ % 5).toNat, by omega⟩
  have hk4 : k ≤ 4 := by omega
  have hng : decide ((u : Int) < 0) = false := decide_eq_false (by omega)
  obtain ⟨z4, hz4⟩ : ∃ z : ByteArray, (⟨#[48, 48, 48, 48]⟩ : ByteArray).extract 0 k = z := ⟨_, rfl⟩
  obtain ⟨hzl, hzs⟩ := zeros_four k hk4 z4 hz4
  have HT := Lib.hid ht
  have HM := Lib.hid hm0
  have HZ := Lib.hid hzl
  clear ht hm0 hzl
  have hlen := decDigits_len 4 u (by omega)
  go_enter Tryd.func8, Tryd.ntmps8
  go_wp2_with fail
  refine (refDec_at _ u (by omega) (by omega) _).mono ?_
  rintro e w1 ⟨s, rfl, hs, hb1⟩
  have HB1 := Lib.hid hb1
  have HS := Lib.hid hs
  have hss : s.size ≤ 5 := len_le hs hlen
  clear hb1 hs
  go_wp2_with fail
  go_loop [6] (PwRel u k) (fun s => 10 - strLen s)
  case atStart => exact ⟨0, _, by omega, rfl, HS.out⟩
  case round =>
    obtain ⟨z, b, hz, rfl, hbl⟩ := hrel
    have hbs : b.size ≤ 10 := len_le hbl (by simp; omega)
    by_cases hle : b.size ≤ k
    · have hd : decide ((b.size : Int) ≤ (k : Int)) = true := decide_eq_true (by omega)
      have hzk : z ≤ k := by have := size_list b; rw [hbl, List.length_append, List.length_replicate] at this; omega
      have HBL := Lib.hid hbl
      clear hbl
      go_wp2_with fail
      go_round
      case rel => exact ⟨z + 1, _, by omega, rfl, by rw [data_app, HBL.out, List.replicate_succ]; rfl⟩
      case measure => show 10 - (⟨#[48]⟩ ++ b : ByteArray).size < 10 - b.size; rw [size_app]; have : (⟨#[48]⟩ : ByteArray).size = 1 := rfl; omega
    · have hd : decide ((b.size : Int) ≤ (k : Int)) = false := decide_eq_false (by omega)
      obtain ⟨p, hp⟩ : ∃ p : Nat, (b.size : Int) - (k : Int) = (p : Int) := ⟨b.size - k, by omega⟩
      have HBL := Lib.hid hbl
      clear hbl
      go_wp2_with fail
      refine (refDec_at _ u (by omega) (by omega) _).mono ?_
      rintro e w2 ⟨s2, rfl, hs2, hb2⟩
      have HB2 := Lib.hid (bthen HB1.out hb2)
      have HS2 := Lib.hid hs2
      have hss2 : s2.size ≤ 5 := len_le hs2 hlen
      clear hb2 hs2
      go_wp2_with fail
      refine (refDec_at _ k (by omega) (by omega) _).mono ?_
      rintro e w3 ⟨s3, rfl, hs3, hb3⟩
      have HB3 := Lib.hid (bthen HB2.out hb3)
      have hss3 : s3.size ≤ 5 := len_le hs3 (decDigits_len 4 k (by omega))
      have HS3 := Lib.hid hs3
      clear hb3 hs3
      have h4 : tokR (s2 ++ ⟨#[101, 45]⟩ ++ s3).data.toList = (2, (powN u k : Int), true, 0) := by
        rw [data_app, data_app, HS2.out, HS3.out]
        exact tok_t false u k (by omega) (fun _ => by omega) (by omega)
      have H4 := Lib.hid h4
      clear h4
      go_wp2_with fail
      refine (decToken_is _ _ (by rw [size_app, size_app]; have : (⟨#[101, 45]⟩ : ByteArray).size = 2 := rfl; omega) _ (HM.out.below HB3.out) H4.out).mono ?_
      rintro e w4 ⟨rfl, hb4⟩
      have HB4 := Lib.hid (bthen HB3.out hb4)
      clear hb4
      obtain ⟨a, ha⟩ : ∃ a : ByteArray, b.extract 0 p = a := ⟨_, rfl⟩
      obtain ⟨c, hc⟩ : ∃ c : ByteArray, b.extract p b.size = c := ⟨_, rfl⟩
      have hal : a.data.toList = b.data.toList.take p := by rw [← ha]; exact ext_to2 b p
      have hcl : c.data.toList = b.data.toList.drop p := by rw [← hc]; exact ext_from2 b p
      have has : a.size = p := by rw [size_list, hal, List.length_take, ← size_list]; omega
      have hcs : c.size = k := by rw [size_list, hcl, List.length_drop, ← size_list]; omega
      have hpb : p ≤ b.size := by omega
      have h5 : tokR (⟨#[]⟩ ++ a ++ ⟨#[46]⟩ ++ c : ByteArray).data.toList = (2, (powN u k : Int), true, 0) := by
        rw [data_app, data_app, data_app]
        have := tok_u false u k z (by omega) (fun _ => by omega) (by omega) (by omega) a.data.toList c.data.toList (by rw [hal, hcl, List.take_append_drop, HBL.out]) (by rw [← size_list, hcs]) (by intro h; have := size_list a; rw [h, List.length_nil] at this; omega)
        simpa [sg, sgn] using this
      have h5s : (⟨#[]⟩ ++ a ++ ⟨#[46]⟩ ++ c : ByteArray).size ≤ 3000 := by
        rw [size_app, size_app, size_app]; have h1 : (⟨#[46]⟩ : ByteArray).size = 1 := rfl; have h2 : (⟨#[]⟩ : ByteArray).size = 0 := rfl; omega
      have H5 := Lib.hid (fun w hm => decToken_is _ _ h5s w hm h5)
      have hB : Below w.heap.size w (tokB w4 (powN u k)) := HB4.out.alloc HB4.out.size _
      have HB := Lib.hid hB
      have HM1 := Lib.hid (HM.out.below (below_draws2 hB 1))
      have HM2 := Lib.hid (HM.out.below (below_draws2 (hB.alloc hB.size (Obj.cells #[.int .i64 0, .int .i64 0, .string ⟨#[]⟩] 29)) 1))
      clear hal hcl h5 h5s hB
      go_wp2_with fail
      go_cut [13, 14, 15] (fun s13 s14 s15 wx => TokAt (tokB w4 (powN u k)) (powN u k) s13 s14 s15 wx)
      case first =>
        go_region_with (go_at_call 16; first | (refine (H5.out _ HM1.out).mono ?_; rintro e w5 ⟨rfl, hb5⟩) | (refine (H5.out _ HM2.out).mono ?_; rintro e w5 ⟨rfl, hb5⟩; obtain ⟨t0, t1, t2, tf⟩ := tok_cells_d hb5))
        all_goals (go_wp2_with fail; go_meet; first | exact tokAt_1 hb5 | exact tokAt_2 hb5)
      case rest =>
        obtain ⟨q, rfl, rfl, rfl, hq, hbq⟩ := hcut
        have hq1 := (tokB_in w4 (powN u k : Int)).below hbq
        have HB6 := Lib.hid (bthen HB.out hbq)
        have HQ := Lib.hid hq
        have HQ1 := Lib.hid hq1
        clear hq hbq hq1
        go_wp2_with fail
        refine (refDec_at _ u (by omega) (by omega) _).mono ?_
        rintro e w6 ⟨s6, rfl, hs6, hb6⟩
        have HB7 := Lib.hid (bthen HB6.out hb6)
        have HQ2 := Lib.hid (HQ.out.below hb6)
        have HQ3 := Lib.hid (HQ1.out.below hb6)
        have hss6 : s6.size ≤ 5 := len_le hs6 hlen
        have h7 : tokR (s6 ++ ⟨#[46]⟩ ++ z4 ++ ⟨#[101, 43, 48]⟩ : ByteArray).data.toList = (2, (u : Int) * 65536, true, 0) := by
          rw [data_app, data_app, data_app, hs6, HZ.out]
          exact tok_v false u k (by omega) (fun _ => by omega) (by omega)
        have H7 := Lib.hid h7
        clear hs6 hb6 h7 HQ HQ1
        go_wp2_with fail
        refine (decToken_is _ _ (by rw [size_app, size_app, size_app]; have h1 : (⟨#[46]⟩ : ByteArray).size = 1 := rfl; have h2 : (⟨#[101, 43, 48]⟩ : ByteArray).size = 3 := rfl; omega) _ (HM.out.below HB7.out) H7.out).mono ?_
        rintro e w7 ⟨rfl, hb7⟩
        have HB8 := Lib.hid (tokB_below (bthen HB7.out hb7) ((u : Int) * 65536))
        have hb78 : Below w6.heap.size w6 (tokB w7 ((u : Int) * 65536)) := tokB_below hb7 _
        have HQ4 := Lib.hid (HQ2.out.below hb78)
        have HQ5 := Lib.hid (HQ3.out.below hb78)
        clear hb7 hb78 HQ2 HQ3
        go_wp2_with fail
        refine (answers2_any (tokB w7 ((u : Int) * 65536)) (by exact HT.out.below HB8.out)).mono ?_
        rintro e w8 ⟨rfl, hb8⟩
        obtain ⟨_, r0, r1, r2⟩ := HQ4.out.below hb8
        obtain ⟨_, t0, t1, t2⟩ := HQ5.out.below hb8
        obtain ⟨_, v0, v1, v2⟩ := (tokB_in w7 ((u : Int) * 65536)).below hb8
        have HB9 := Lib.hid (bthen HB8.out hb8)
        clear hb8
        go_wp2_with fail
        go_ret
        exact ⟨rfl, HB9.out⟩
set_option maxRecDepth 100000 in
set_option maxHeartbeats 1000000 in
theorem pow_neg (u : Nat) (hu1 : 1 ≤ u) (hu : u ≤ 32768) (by_ : Int) (hb0 : 0 ≤ by_) (hb1 : by_ ≤ 255) (w : World) (ht : Tab w) (hm0 : Mx w) :
    Calls Tryd.prog 8 #[.int .i16 (-(u : Int)), .int .u8 by_] w fun e w' => e = .returned (.bool true) ∧ Below w.heap.size w w' := by
  obtain ⟨k, hk⟩ : ∃ k : Nat, by_ % 5 = (k : Int) := ⟨(by_ % 5).toNat, by omega⟩
  have hk4 : k ≤ 4 := by omega
  have hng : decide (-(u : Int) < 0) = true := decide_eq_true (by omega)
  obtain ⟨z4, hz4⟩ : ∃ z : ByteArray, (⟨#[48, 48, 48, 48]⟩ : ByteArray).extract 0 k = z := ⟨_, rfl⟩
  obtain ⟨hzl, hzs⟩ := zeros_four k hk4 z4 hz4
  have HT := Lib.hid ht
  have HM := Lib.hid hm0
  have HZ := Lib.hid hzl
  clear ht hm0 hzl
  have hlen := decDigits_len 4 u (by omega)
  go_enter Tryd.func8, Tryd.ntmps8
  go_wp2_with fail
  refine (refDec_neg u _ hu1 hu).mono ?_
  rintro e w1 ⟨s, rfl, hs, hb1⟩
  have HB1 := Lib.hid (fun j => below_draws2 hb1 j)
  have hss : s.size ≤ 6 := len_le hs (by simp; omega)
  have hss1 : 1 ≤ s.size := by rw [size_list, hs]; simp
  obtain ⟨y, hy⟩ : ∃ y : ByteArray, s.extract 1 s.size = y := ⟨_, rfl⟩
  have hyl : y.data.toList = Lib.decDigits u := by rw [← hy, ext_from2, hs]; rfl
  have HS := Lib.hid hyl
  have hys : y.size ≤ 5 := len_le hyl hlen
  clear hb1 hs hyl
  go_wp2_with fail
  go_quiet (fail)
  go_wp2_with fail
  go_loop [6] (PwRel u k) (fun s => 10 - strLen s)
  case atStart => exact ⟨0, _, by omega, rfl, HS.out⟩
  case round =>
    obtain ⟨z, b, hz, rfl, hbl⟩ := hrel
    have hbs : b.size ≤ 10 := len_le hbl (by simp; omega)
    by_cases hle : b.size ≤ k
    · have hd : decide ((b.size : Int) ≤ (k : Int)) = true := decide_eq_true (by omega)
      have hzk : z ≤ k := by have := size_list b; rw [hbl, List.length_append, List.length_replicate] at this; omega
      have HBL := Lib.hid hbl
      clear hbl
      go_wp2_with fail
      go_round
      case rel => exact ⟨z + 1, _, by omega, rfl, by rw [data_app, HBL.out, List.replicate_succ]; rfl⟩
      case measure => show 10 - (⟨#[48]⟩ ++ b : ByteArray).size < 10 - b.size; rw [size_app]; have : (⟨#[48]⟩ : ByteArray).size = 1 := rfl; omega
    · have hd : decide ((b.size : Int) ≤ (k : Int)) = false := decide_eq_false (by omega)
      obtain ⟨p, hp⟩ : ∃ p : Nat, (b.size : Int) - (k : Int) = (p : Int) := ⟨b.size - k, by omega⟩
      have HBL := Lib.hid hbl
      clear hbl
      go_wp2_with fail
      refine (refDec_neg u _ hu1 hu).mono ?_
      rintro e w2 ⟨s2, rfl, hs2, hb2⟩
      have HB2 := Lib.hid (bthen (HB1.out _) hb2)
      have HS2 := Lib.hid hs2
      have hss2 : s2.size ≤ 6 := len_le hs2 (by simp; omega)
      clear hb2 hs2
      go_wp2_with fail
      refine (refDec_at _ k (by omega) (by omega) _).mono ?_
      rintro e w3 ⟨s3, rfl, hs3, hb3⟩
      have HB3 := Lib.hid (bthen HB2.out hb3)
      have hss3 : s3.size ≤ 5 := len_le hs3 (decDigits_len 4 k (by omega))
      have HS3 := Lib.hid hs3
      clear hb3 hs3
      have h4 : tokR (s2 ++ ⟨#[101, 45]⟩ ++ s3).data.toList = (2, -(powN u k : Int), true, 0) := by
        rw [data_app, data_app, HS2.out, HS3.out]
        exact tok_t true u k (by omega) (fun h => by cases h) (by omega)
      have H4 := Lib.hid h4
      clear h4
      go_wp2_with fail
      refine (decToken_is _ _ (by rw [size_app, size_app]; have : (⟨#[101, 45]⟩ : ByteArray).size = 2 := rfl; omega) _ (HM.out.below HB3.out) H4.out).mono ?_
      rintro e w4 ⟨rfl, hb4⟩
      have HB4 := Lib.hid (bthen HB3.out hb4)
      clear hb4
      obtain ⟨a, ha⟩ : ∃ a : ByteArray, b.extract 0 p = a := ⟨_, rfl⟩
      obtain ⟨c, hc⟩ : ∃ c : ByteArray, b.extract p b.size = c := ⟨_, rfl⟩
      have hal : a.data.toList = b.data.toList.take p := by rw [← ha]; exact ext_to2 b p
      have hcl : c.data.toList = b.data.toList.drop p := by rw [← hc]; exact ext_from2 b p
      have has : a.size = p := by rw [size_list, hal, List.length_take, ← size_list]; omega
      have hcs : c.size = k := by rw [size_list, hcl, List.length_drop, ← size_list]; omega
      have hpb : p ≤ b.size := by omega
      have h5 : tokR (⟨#[45]⟩ ++ a ++ ⟨#[46]⟩ ++ c : ByteArray).data.toList = (2, -(powN u k : Int), true, 0) := by
        rw [data_app, data_app, data_app]
        have := tok_u true u k z (by omega) (fun h => by cases h) (by omega) (by omega) a.data.toList c.data.toList (by rw [hal, hcl, List.take_append_drop, HBL.out]) (by rw [← size_list, hcs]) (by intro h; have := size_list a; rw [h, List.length_nil] at this; omega)
        simpa [sg, sgn] using this
      have h5s : (⟨#[45]⟩ ++ a ++ ⟨#[46]⟩ ++ c : ByteArray).size ≤ 3000 := by
        rw [size_app, size_app, size_app]; have h1 : (⟨#[46]⟩ : ByteArray).size = 1 := rfl; have h2 : (⟨#[45]⟩ : ByteArray).size = 1 := rfl; omega
      have H5 := Lib.hid (fun w hm => decToken_is _ _ h5s w hm h5)
      have hB : Below w.heap.size w (tokB w4 (-(powN u k : Int))) := HB4.out.alloc HB4.out.size _
      have HB := Lib.hid hB
      have HM1 := Lib.hid (HM.out.below (below_draws2 hB 1))
      have HM2 := Lib.hid (HM.out.below (below_draws2 (hB.alloc hB.size (Obj.cells #[.int .i64 0, .int .i64 0, .string ⟨#[]⟩] 29)) 1))
      clear hal hcl h5 h5s hB
      go_wp2_with fail
      go_cut [13, 14, 15] (fun s13 s14 s15 wx => TokAt (tokB w4 (-(powN u k : Int))) (-(powN u k : Int)) s13 s14 s15 wx)
      case first =>
        go_region_with (go_at_call 16; first | (refine (H5.out _ HM1.out).mono ?_; rintro e w5 ⟨rfl, hb5⟩) | (refine (H5.out _ HM2.out).mono ?_; rintro e w5 ⟨rfl, hb5⟩; obtain ⟨t0, t1, t2, tf⟩ := tok_cells_d hb5))
        all_goals (go_wp2_with fail; go_meet; first | exact tokAt_1 hb5 | exact tokAt_2 hb5)
      case rest =>
        obtain ⟨q, rfl, rfl, rfl, hq, hbq⟩ := hcut
        have hq1 := (tokB_in w4 (-(powN u k : Int))).below hbq
        have HB6 := Lib.hid (bthen HB.out hbq)
        have HQ := Lib.hid hq
        have HQ1 := Lib.hid hq1
        clear hq hbq hq1
        go_wp2_with fail
        refine (refDec_neg u _ hu1 hu).mono ?_
        rintro e w6 ⟨s6, rfl, hs6, hb6⟩
        have HB7 := Lib.hid (bthen HB6.out hb6)
        have HQ2 := Lib.hid (HQ.out.below hb6)
        have HQ3 := Lib.hid (HQ1.out.below hb6)
        have hss6 : s6.size ≤ 6 := len_le hs6 (by simp; omega)
        have h7 : tokR (s6 ++ ⟨#[46]⟩ ++ z4 ++ ⟨#[101, 43, 48]⟩ : ByteArray).data.toList = (2, -(u : Int) * 65536, true, 0) := by
          rw [data_app, data_app, data_app, hs6, HZ.out]
          have h := tok_v true u k (by omega) (fun h => by cases h) (by omega)
          have e : sgn true ((u * 65536 : Nat) : Int) = -(u : Int) * 65536 := by unfold sgn; simp; omega
          rw [e] at h; exact h
        have H7 := Lib.hid h7
        clear hs6 hb6 h7 HQ HQ1
        go_wp2_with fail
        refine (decToken_is _ _ (by rw [size_app, size_app, size_app]; have h1 : (⟨#[46]⟩ : ByteArray).size = 1 := rfl; have h2 : (⟨#[101, 43, 48]⟩ : ByteArray).size = 3 := rfl; omega) _ (HM.out.below HB7.out) H7.out).mono ?_
        rintro e w7 ⟨rfl, hb7⟩
        have HB8 := Lib.hid (tokB_below (bthen HB7.out hb7) (-(u : Int) * 65536))
        have hb78 : Below w6.heap.size w6 (tokB w7 (-(u : Int) * 65536)) := tokB_below hb7 _
        have HQ4 := Lib.hid (HQ2.out.below hb78)
        have HQ5 := Lib.hid (HQ3.out.below hb78)
        clear hb7 hb78 HQ2 HQ3
        go_wp2_with fail
        refine (answers2_any (tokB w7 (-(u : Int) * 65536)) (by exact HT.out.below HB8.out)).mono ?_
        rintro e w8 ⟨rfl, hb8⟩
        obtain ⟨_, r0, r1, r2⟩ := HQ4.out.below hb8
        obtain ⟨_, t0, t1, t2⟩ := HQ5.out.below hb8
        obtain ⟨_, v0, v1, v2⟩ := (tokB_in w7 (-(u : Int) * 65536)).below hb8
        have HB9 := Lib.hid (bthen HB8.out hb8)
        clear hb8
        go_wp2_with fail
        go_ret
        exact ⟨rfl, HB9.out⟩
theorem lawDecPowers (n by_ : Int) (w0 : (Lit.int .i16 n).wf = true) (w1 : (Lit.int .u8 by_).wf = true) (w : World) (ht : Tab w) (hm : Mx w) :
    Calls Tryd.prog 8 #[.int .i16 n, .int .u8 by_] w fun e w' => e = .returned (.bool true) ∧ Below w.heap.size w w' := by
  obtain ⟨n0, n1⟩ := bounds_i16 w0
  obtain ⟨b0, b1⟩ := bounds_u8 w1
  by_cases h : n < 0
  · obtain ⟨m, rfl⟩ : ∃ m : Nat, n = -(m : Int) := ⟨n.natAbs, by omega⟩
    exact pow_neg m (by omega) (by omega) by_ b0 b1 w ht hm
  · obtain ⟨m, rfl⟩ : ∃ m : Nat, n = (m : Int) := ⟨n.toNat, by omega⟩
    exact pow_pos m (by omega) by_ b0 b1 w ht hm
end Go.Proofs.YtibkgkjijhcnoaaDoor
