/-
  Access is taken away from a dictionary: bar, by a contract.
-/
import Derived.Test.YtfilbfenpdaahaaGreatDoorCnvBar
namespace Go.Proofs.YtfilbfenpdaahaaGreatDoor
open Go.RowKit
open St
open Stk
open Col
namespace Cv
def dO (ex : Bool) : Ob := ⟨8, ex, 0, 0, ⟨#[]⟩, 1, 0, 0⟩
theorem lock_d (n a b : Int) (l : Lay) (ex : Bool) (hb : 0 ≤ b ∧ b ≤ 3) : lockE [(⟨8, [], [], [], n, a⟩, l)] (dO ex) b = 0 ∧ lockR [(⟨8, [], [], [], n, a⟩, l)] (dO ex) b = [(⟨8, [], [], [], n, b⟩, l)] := by
  unfold lockE lockR dO
  rw [tld_d]
  exact ⟨by rw [if_neg (by simp), if_pos hb], rfl⟩
theorem keep9 {W : World} {b c B : Nat} {u0 u1 u2 u3 u4 u5 u6 u7 e0 e1 e2 e3 e4 e5 e6 e7 v : Value} (hb : b ≠ B) (hc : c ≠ B) (h : (W).cell? ⟨b, 0, none⟩ = some u0 ∧ (W).cell? ⟨b, 1, none⟩ = some u1 ∧ (W).cell? ⟨b, 2, none⟩ = some u2 ∧ (W).cell? ⟨b, 3, none⟩ = some u3 ∧ (W).cell? ⟨b, 4, none⟩ = some u4 ∧ (W).cell? ⟨b, 5, none⟩ = some u5 ∧ (W).cell? ⟨b, 6, none⟩ = some u6 ∧ (W).cell? ⟨b, 7, none⟩ = some u7 ∧ (W).cell? ⟨c, 0, none⟩ = some v) : (((((((((W.setCell ⟨B, 0, none⟩ e0).setCell ⟨B, 1, none⟩ e1).setCell ⟨B, 2, none⟩ e2).setCell ⟨B, 3, none⟩ e3).setCell ⟨B, 4, none⟩ e4).setCell ⟨B, 5, none⟩ e5).setCell ⟨B, 6, none⟩ e6).setCell ⟨B, 7, none⟩ e7)).cell? ⟨b, 0, none⟩ = some u0 ∧ (((((((((W.setCell ⟨B, 0, none⟩ e0).setCell ⟨B, 1, none⟩ e1).setCell ⟨B, 2, none⟩ e2).setCell ⟨B, 3, none⟩ e3).setCell ⟨B, 4, none⟩ e4).setCell ⟨B, 5, none⟩ e5).setCell ⟨B, 6, none⟩ e6).setCell ⟨B, 7, none⟩ e7)).cell? ⟨b, 1, none⟩ = some u1 ∧ (((((((((W.setCell ⟨B, 0, none⟩ e0).setCell ⟨B, 1, none⟩ e1).setCell ⟨B, 2, none⟩ e2).setCell ⟨B, 3, none⟩ e3).setCell ⟨B, 4, none⟩ e4).setCell ⟨B, 5, none⟩ e5).setCell ⟨B, 6, none⟩ e6).setCell ⟨B, 7, none⟩ e7)).cell? ⟨b, 2, none⟩ = some u2 ∧ (((((((((W.setCell ⟨B, 0, none⟩ e0).setCell ⟨B, 1, none⟩ e1).setCell ⟨B, 2, none⟩ e2).setCell ⟨B, 3, none⟩ e3).setCell ⟨B, 4, none⟩ e4).setCell ⟨B, 5, none⟩ e5).setCell ⟨B, 6, none⟩ e6).setCell ⟨B, 7, none⟩ e7)).cell? ⟨b, 3, none⟩ = some u3 ∧ (((((((((W.setCell ⟨B, 0, none⟩ e0).setCell ⟨B, 1, none⟩ e1).setCell ⟨B, 2, none⟩ e2).setCell ⟨B, 3, none⟩ e3).setCell ⟨B, 4, none⟩ e4).setCell ⟨B, 5, none⟩ e5).setCell ⟨B, 6, none⟩ e6).setCell ⟨B, 7, none⟩ e7)).cell? ⟨b, 4, none⟩ = some u4 ∧ (((((((((W.setCell ⟨B, 0, none⟩ e0).setCell ⟨B, 1, none⟩ e1).setCell ⟨B, 2, none⟩ e2).setCell ⟨B, 3, none⟩ e3).setCell ⟨B, 4, none⟩ e4).setCell ⟨B, 5, none⟩ e5).setCell ⟨B, 6, none⟩ e6).setCell ⟨B, 7, none⟩ e7)).cell? ⟨b, 5, none⟩ = some u5 ∧ (((((((((W.setCell ⟨B, 0, none⟩ e0).setCell ⟨B, 1, none⟩ e1).setCell ⟨B, 2, none⟩ e2).setCell ⟨B, 3, none⟩ e3).setCell ⟨B, 4, none⟩ e4).setCell ⟨B, 5, none⟩ e5).setCell ⟨B, 6, none⟩ e6).setCell ⟨B, 7, none⟩ e7)).cell? ⟨b, 6, none⟩ = some u6 ∧ (((((((((W.setCell ⟨B, 0, none⟩ e0).setCell ⟨B, 1, none⟩ e1).setCell ⟨B, 2, none⟩ e2).setCell ⟨B, 3, none⟩ e3).setCell ⟨B, 4, none⟩ e4).setCell ⟨B, 5, none⟩ e5).setCell ⟨B, 6, none⟩ e6).setCell ⟨B, 7, none⟩ e7)).cell? ⟨b, 7, none⟩ = some u7 ∧ (((((((((W.setCell ⟨B, 0, none⟩ e0).setCell ⟨B, 1, none⟩ e1).setCell ⟨B, 2, none⟩ e2).setCell ⟨B, 3, none⟩ e3).setCell ⟨B, 4, none⟩ e4).setCell ⟨B, 5, none⟩ e5).setCell ⟨B, 6, none⟩ e6).setCell ⟨B, 7, none⟩ e7)).cell? ⟨c, 0, none⟩ = some v := by
  obtain ⟨h0, h1, h2, h3, h4, h5, h6, h7, h8⟩ := h
  have hk : ∀ {q j : Nat} {u : Value}, q ≠ B → W.cell? ⟨q, j, none⟩ = some u → (((((((((W.setCell ⟨B, 0, none⟩ e0).setCell ⟨B, 1, none⟩ e1).setCell ⟨B, 2, none⟩ e2).setCell ⟨B, 3, none⟩ e3).setCell ⟨B, 4, none⟩ e4).setCell ⟨B, 5, none⟩ e5).setCell ⟨B, 6, none⟩ e6).setCell ⟨B, 7, none⟩ e7)).cell? ⟨q, j, none⟩ = some u := fun hq hu => (World.cell?_of_block (by rw [blk_far hq, blk_far hq, blk_far hq, blk_far hq, blk_far hq, blk_far hq, blk_far hq, blk_far hq])).trans hu
  exact ⟨hk hb h0, hk hb h1, hk hb h2, hk hb h3, hk hb h4, hk hb h5, hk hb h6, hk hb h7, hk hc h8⟩
theorem turn_ok {O : Nat → Prop} {w w' : World} {s : Nat} {fr : Int} {G : List (Th × Lay)} {e : Ending} (h : Turn O w s fr 0 G e w') : e = .returned (.int .i64 0) ∧ Frm O w w' ∧ Rep O w' s fr G := by
  obtain ⟨rfl, ⟨hno, _⟩ | ⟨_, hr, hf⟩⟩ := h
  · exact absurd rfl hno
  · exact ⟨rfl, hf, hr⟩
theorem cell9 {W W' : World} {b c : Nat} {u0 u1 u2 u3 u4 u5 u6 u7 v : Value} {O : Nat → Prop} (hF : Frm O W W') (hb : ¬ O b) (hc : ¬ O c)
    (h : W.cell? ⟨b, 0, none⟩ = some u0 ∧ W.cell? ⟨b, 1, none⟩ = some u1 ∧ W.cell? ⟨b, 2, none⟩ = some u2 ∧ W.cell? ⟨b, 3, none⟩ = some u3 ∧ W.cell? ⟨b, 4, none⟩ = some u4 ∧ W.cell? ⟨b, 5, none⟩ = some u5 ∧ W.cell? ⟨b, 6, none⟩ = some u6 ∧ W.cell? ⟨b, 7, none⟩ = some u7 ∧ W.cell? ⟨c, 0, none⟩ = some v) :
    W'.cell? ⟨b, 0, none⟩ = some u0 ∧ W'.cell? ⟨b, 1, none⟩ = some u1 ∧ W'.cell? ⟨b, 2, none⟩ = some u2 ∧ W'.cell? ⟨b, 3, none⟩ = some u3 ∧ W'.cell? ⟨b, 4, none⟩ = some u4 ∧ W'.cell? ⟨b, 5, none⟩ = some u5 ∧ W'.cell? ⟨b, 6, none⟩ = some u6 ∧ W'.cell? ⟨b, 7, none⟩ = some u7 ∧ W'.cell? ⟨c, 0, none⟩ = some v := by
  obtain ⟨h0, h1, h2, h3, h4, h5, h6, h7, h8⟩ := h
  have hk : ∀ {q j : Nat} {u : Value}, ¬ O q → W.cell? ⟨q, j, none⟩ = some u → W'.cell? ⟨q, j, none⟩ = some u := fun hq hu => (World.cell?_of_block (hF.block _ (World.block_lt_of_cell? W _ hu) hq)).trans hu
  exact ⟨hk hb h0, hk hb h1, hk hb h2, hk hb h3, hk hb h4, hk hb h5, hk hb h6, hk hb h7, hk hc h8⟩
set_option maxRecDepth 100000 in
set_option maxHeartbeats 1000000 in
theorem bar_d2 {O : Nat → Prop} {s : Nat} {a b fr n : Int} {l : Lay} {ex : Bool} {w : World} (hr : Rep O w s fr [(⟨8, [], [], [], n, a⟩, l)]) (ha : 0 ≤ a ∧ a ≤ 3) (_hb : 1 ≤ b ∧ b ≤ 3) (h2 : b = 2) :
    Calls Tryz.prog 41 #[cw s, (dO ex).val, .int .i64 b] w (BarP O s 8 a b (dO ex) w) := by
  have hlk : Lk O s 8 a (dO ex) w := ⟨ha, .inr ⟨rfl, fr, n, l, ex, hr, rfl⟩⟩
  have hac : acs [(⟨8, [], [], [], n, a⟩, l)] (dO ex) = a := by unfold acs dO; rw [if_pos rfl]; unfold dicT; rw [tld_d]; rfl
  have HB := Lib.hid (bx3 (O := O) w (cwC s) (obC (dO ex)) (obC nul) hr.olt)
  have HH := Lib.hid (fun w2 => isHeld_at (dO ex) w2)
  have HA := Lib.hid (fun w2 (hb : Below w.heap.size w w2) => accessOf_at (hr.below hb) (dO ex))
  have H3 : Hid (Below w.heap.size w (((w.alloc (cwC s)).alloc (obC (dO ex))).alloc (obC nul))) := Lib.hid (bthen (below2 w _ _) (below1 _ _))
  rw [hac] at HA
  rw [show held (dO ex) = true from rfl] at HH
  have HLk := Lib.hid hlk
  have HR := Lib.hid hr
  unfold cwC obC nul dO at HB H3
  unfold dO Ob.val at HH HA
  unfold cw at HA
  unfold cw dO Ob.val
  have HE := Lib.hid (by unfold okE; rw [if_pos ⟨rfl, h2⟩] : okE 8 a b = 16)
  have g2 : (b == 2) = true := by simp [h2]
  clear h2 ha
  clear hr hlk hac
  go_enter Tryz.func41, Tryz.ntmps41
  go_wp2_with fail
  refine (HH.out _).mono ?_; rintro e w2 ⟨rfl, hb2⟩
  have K2 := HB.out.below hb2
  have c0 := cellCv K2.b2
  obtain ⟨x0, x1, x2, x3, x4, x5, x6, x7⟩ := cellsOb K2.b1
  have zf := blk_free K2.b0
  obtain ⟨z0, z1, z2, z3, z4, z5, z6, z7⟩ := cellsOb K2.b0
  have HZ2 := Lib.hid K2.b0
  have HB2 := Lib.hid (bthen H3.out hb2)
  have HK2 := Lib.hid K2
  clear hb2 K2
  go_wp2_with fail
  have hp := put8 HZ2.out (.int .i64 0) (.bool false) (.int .i64 0) (.int .i64 0) (.string ⟨#[]⟩) (.int .i64 0) (.int .i64 0) (.int .i64 0)
  have hbw := below_put8 HB2.out (by omega) hp
  exact bodyPost_ret (results_ob2 Tryz.results41 _ _ (w.heap.size + 1 + 1) rfl rfl hp.blk) rfl ⟨Frm.of_below hbw, Or.inl ⟨by rw [HE.out]; decide, by rw [HE.out]; rfl, HLk.out.below hbw⟩⟩
set_option maxRecDepth 100000 in
set_option maxHeartbeats 1000000 in
theorem bar_d5 {O : Nat → Prop} {s : Nat} {a b fr n : Int} {l : Lay} {ex : Bool} {w : World} (hr : Rep O w s fr [(⟨8, [], [], [], n, a⟩, l)]) (ha : 0 ≤ a ∧ a ≤ 3) (_hb : 1 ≤ b ∧ b ≤ 3) (h2 : b ≠ 2) (h35 : a = 3 ∧ b ≠ 3) :
    Calls Tryz.prog 41 #[cw s, (dO ex).val, .int .i64 b] w (BarP O s 8 a b (dO ex) w) := by
  have hlk : Lk O s 8 a (dO ex) w := ⟨ha, .inr ⟨rfl, fr, n, l, ex, hr, rfl⟩⟩
  have hac : acs [(⟨8, [], [], [], n, a⟩, l)] (dO ex) = a := by unfold acs dO; rw [if_pos rfl]; unfold dicT; rw [tld_d]; rfl
  have HB := Lib.hid (bx3 (O := O) w (cwC s) (obC (dO ex)) (obC nul) hr.olt)
  have HH := Lib.hid (fun w2 => isHeld_at (dO ex) w2)
  have HA := Lib.hid (fun w2 (hb : Below w.heap.size w w2) => accessOf_at (hr.below hb) (dO ex))
  have H3 : Hid (Below w.heap.size w (((w.alloc (cwC s)).alloc (obC (dO ex))).alloc (obC nul))) := Lib.hid (bthen (below2 w _ _) (below1 _ _))
  rw [hac] at HA
  rw [show held (dO ex) = true from rfl] at HH
  have HLk := Lib.hid hlk
  have HR := Lib.hid hr
  unfold cwC obC nul dO at HB H3
  unfold dO Ob.val at HH HA
  unfold cw at HA
  unfold cw dO Ob.val
  have HE := Lib.hid (by unfold okE; rw [if_neg (fun e => h2 e.2), if_pos h35] : okE 8 a b = 5)
  have g2 : (b == 2) = false := by simp [h2]
  have g3 : (a == 3) = true := by simp [h35.1]
  have g4 : (b != 3) = true := by simp [h35.2]
  clear h2 ha h35
  clear hr hlk hac
  go_enter Tryz.func41, Tryz.ntmps41
  go_wp2_with fail
  refine (HH.out _).mono ?_; rintro e w2 ⟨rfl, hb2⟩
  have K2 := HB.out.below hb2
  have c0 := cellCv K2.b2
  obtain ⟨x0, x1, x2, x3, x4, x5, x6, x7⟩ := cellsOb K2.b1
  have zf := blk_free K2.b0
  obtain ⟨z0, z1, z2, z3, z4, z5, z6, z7⟩ := cellsOb K2.b0
  have HZ2 := Lib.hid K2.b0
  have HB2 := Lib.hid (bthen H3.out hb2)
  have HK2 := Lib.hid K2
  clear hb2 K2
  go_wp2_with fail
  refine (HA.out _ HB2.out).mono ?_; rintro e w3 ⟨rfl, hb3⟩
  have K3 := HK2.out.below hb3
  have HB3 := Lib.hid (bthen HB2.out hb3)
  have HZ := Lib.hid K3.b0
  have HK3 := Lib.hid K3
  clear c0 x0 x1 x2 x3 x4 x5 x6 x7 zf z0 z1 z2 z3 z4 z5 z6 z7 hb3
  have c0 := cellCv K3.b2
  obtain ⟨x0, x1, x2, x3, x4, x5, x6, x7⟩ := cellsOb K3.b1
  have zf := blk_free K3.b0
  obtain ⟨z0, z1, z2, z3, z4, z5, z6, z7⟩ := cellsOb K3.b0
  clear K3
  go_wp2_with fail
  have hp := put8 HZ.out (.int .i64 0) (.bool false) (.int .i64 0) (.int .i64 0) (.string ⟨#[]⟩) (.int .i64 0) (.int .i64 0) (.int .i64 0)
  have hbw := below_put8 HB3.out (by omega) hp
  exact bodyPost_ret (results_ob2 Tryz.results41 _ _ (w.heap.size + 1 + 1) rfl rfl hp.blk) rfl ⟨Frm.of_below hbw, Or.inl ⟨by rw [HE.out]; decide, by rw [HE.out]; rfl, HLk.out.below hbw⟩⟩
set_option maxRecDepth 100000 in
set_option maxHeartbeats 1000000 in
theorem bar_d0 {O : Nat → Prop} {s : Nat} {a b fr n : Int} {l : Lay} {ex : Bool} {w : World} (hr : Rep O w s fr [(⟨8, [], [], [], n, a⟩, l)]) (ha : 0 ≤ a ∧ a ≤ 3) (_hb : 1 ≤ b ∧ b ≤ 3) (h2 : b ≠ 2) (h35 : ¬ (a = 3 ∧ b ≠ 3)) (hge : b ≤ a) :
    Calls Tryz.prog 41 #[cw s, (dO ex).val, .int .i64 b] w (BarP O s 8 a b (dO ex) w) := by
  have hlk : Lk O s 8 a (dO ex) w := ⟨ha, .inr ⟨rfl, fr, n, l, ex, hr, rfl⟩⟩
  have hac : acs [(⟨8, [], [], [], n, a⟩, l)] (dO ex) = a := by unfold acs dO; rw [if_pos rfl]; unfold dicT; rw [tld_d]; rfl
  have HB := Lib.hid (bx3 (O := O) w (cwC s) (obC (dO ex)) (obC nul) hr.olt)
  have HH := Lib.hid (fun w2 => isHeld_at (dO ex) w2)
  have HA := Lib.hid (fun w2 (hb : Below w.heap.size w w2) => accessOf_at (hr.below hb) (dO ex))
  have H3 : Hid (Below w.heap.size w (((w.alloc (cwC s)).alloc (obC (dO ex))).alloc (obC nul))) := Lib.hid (bthen (below2 w _ _) (below1 _ _))
  rw [hac] at HA
  rw [show held (dO ex) = true from rfl] at HH
  have HLk := Lib.hid hlk
  have HR := Lib.hid hr
  unfold cwC obC nul dO at HB H3
  unfold dO Ob.val at HH HA
  unfold cw at HA
  unfold cw dO Ob.val
  have HE := Lib.hid (by unfold okE; rw [if_neg (fun e => h2 e.2), if_neg h35] : okE 8 a b = 0)
  have g2 : (b == 2) = false := by simp [h2]
  have g5 : decide (b ≤ a) = true := decide_eq_true hge
  have HM := Lib.hid (Int.max_eq_left hge)
  have HG := Lib.hid h35
  clear h2 ha h35 hge
  clear hr hlk hac
  go_enter Tryz.func41, Tryz.ntmps41
  go_wp2_with fail
  refine (HH.out _).mono ?_; rintro e w2 ⟨rfl, hb2⟩
  have K2 := HB.out.below hb2
  have c0 := cellCv K2.b2
  obtain ⟨x0, x1, x2, x3, x4, x5, x6, x7⟩ := cellsOb K2.b1
  have zf := blk_free K2.b0
  obtain ⟨z0, z1, z2, z3, z4, z5, z6, z7⟩ := cellsOb K2.b0
  have HZ2 := Lib.hid K2.b0
  have HB2 := Lib.hid (bthen H3.out hb2)
  have HK2 := Lib.hid K2
  clear hb2 K2
  go_wp2_with fail
  refine (HA.out _ HB2.out).mono ?_; rintro e w3 ⟨rfl, hb3⟩
  have K3 := HK2.out.below hb3
  have HB3 := Lib.hid (bthen HB2.out hb3)
  have HZ := Lib.hid K3.b0
  have HK3 := Lib.hid K3
  clear c0 x0 x1 x2 x3 x4 x5 x6 x7 zf z0 z1 z2 z3 z4 z5 z6 z7 hb3
  have c0 := cellCv K3.b2
  obtain ⟨x0, x1, x2, x3, x4, x5, x6, x7⟩ := cellsOb K3.b1
  have zf := blk_free K3.b0
  obtain ⟨z0, z1, z2, z3, z4, z5, z6, z7⟩ := cellsOb K3.b0
  clear K3
  have hb3' : ∃ d1 d2, (a == 3) = d1 ∧ (b != 3) = d2 ∧ (d1 = false ∨ d2 = false) := ⟨_, _, rfl, rfl, by
    by_cases e1 : a = 3
    · right
      have : b = 3 := Classical.byContradiction (fun e2 => HG.out ⟨e1, e2⟩)
      simp [this]
    · left; simp [e1]⟩
  obtain ⟨d1, d2, q1, q2, hor⟩ := hb3'
  rcases hor with rfl | rfl
  all_goals (try cases d1)
  all_goals
    go_wp2_with fail
    have hp := put8 HZ.out (.int .i64 8) (.bool ex) (.int .i64 0) (.int .i64 0) (.string ⟨#[]⟩) (.int .i64 1) (.int .i64 0) (.int .i64 0)
    have hbw := below_put8 HB3.out (by omega) hp
    refine bodyPost_ret (results_ob2 Tryz.results41 _ _ (w.heap.size + 1 + 1) rfl rfl hp.blk) rfl ⟨Frm.of_below hbw, Or.inr ⟨HE.out, dO ex, rfl, ?_⟩⟩
    rw [HM.out]
    exact HLk.out.below hbw
set_option maxRecDepth 100000 in
set_option maxHeartbeats 1000000 in
theorem bar_d1 {O : Nat → Prop} {s : Nat} {a b fr n : Int} {l : Lay} {ex : Bool} {w : World} (hr : Rep O w s fr [(⟨8, [], [], [], n, a⟩, l)]) (ha : 0 ≤ a ∧ a ≤ 3) (hb : 1 ≤ b ∧ b ≤ 3) (h2 : b ≠ 2) (hge : a < b) :
    Calls Tryz.prog 41 #[cw s, (dO ex).val, .int .i64 b] w (BarP O s 8 a b (dO ex) w) := by
  have hlk : Lk O s 8 a (dO ex) w := ⟨ha, .inr ⟨rfl, fr, n, l, ex, hr, rfl⟩⟩
  have hac : acs [(⟨8, [], [], [], n, a⟩, l)] (dO ex) = a := by unfold acs dO; rw [if_pos rfl]; unfold dicT; rw [tld_d]; rfl
  have HB := Lib.hid (bx3 (O := O) w (cwC s) (obC (dO ex)) (obC nul) hr.olt)
  have HH := Lib.hid (fun w2 => isHeld_at (dO ex) w2)
  have HA := Lib.hid (fun w2 (hb : Below w.heap.size w w2) => accessOf_at (hr.below hb) (dO ex))
  have H3 : Hid (Below w.heap.size w (((w.alloc (cwC s)).alloc (obC (dO ex))).alloc (obC nul))) := Lib.hid (bthen (below2 w _ _) (below1 _ _))
  rw [hac] at HA
  rw [show held (dO ex) = true from rfl] at HH
  have HLk := Lib.hid hlk
  have HR := Lib.hid hr
  unfold cwC obC nul dO at HB H3
  unfold dO Ob.val at HH HA
  unfold cw at HA
  unfold cw dO Ob.val
  have HE := Lib.hid (by unfold okE; rw [if_neg (fun e => h2 e.2), if_neg (by omega)] : okE 8 a b = 0)
  have g2 : (b == 2) = false := by simp [h2]
  have g3 : (a == 3) = false := by simp; omega
  have g5 : decide (b ≤ a) = false := decide_eq_false (by omega)
  have HM := Lib.hid (Int.max_eq_right (Int.le_of_lt hge))
  have HL0 := Lib.hid (And.intro (show 0 ≤ b ∧ b ≤ 3 by omega) (fun w2 (hb2 : Below w.heap.size w w2) => lock_at (hr.below hb2) (dO ex) b))
  clear h2 ha hb hge
  clear hr hlk hac
  go_enter Tryz.func41, Tryz.ntmps41
  go_wp2_with fail
  refine (HH.out _).mono ?_; rintro e w2 ⟨rfl, hb2⟩
  have K2 := HB.out.below hb2
  have c0 := cellCv K2.b2
  obtain ⟨x0, x1, x2, x3, x4, x5, x6, x7⟩ := cellsOb K2.b1
  have zf := blk_free K2.b0
  obtain ⟨z0, z1, z2, z3, z4, z5, z6, z7⟩ := cellsOb K2.b0
  have HZ2 := Lib.hid K2.b0
  have HB2 := Lib.hid (bthen H3.out hb2)
  have HK2 := Lib.hid K2
  clear hb2 K2
  go_wp2_with fail
  refine (HA.out _ HB2.out).mono ?_; rintro e w3 ⟨rfl, hb3⟩
  have K3 := HK2.out.below hb3
  have HB3 := Lib.hid (bthen HB2.out hb3)
  have HZ := Lib.hid K3.b0
  have HK3 := Lib.hid K3
  clear c0 x0 x1 x2 x3 x4 x5 x6 x7 zf z0 z1 z2 z3 z4 z5 z6 z7 hb3
  have c0 := cellCv K3.b2
  obtain ⟨x0, x1, x2, x3, x4, x5, x6, x7⟩ := cellsOb K3.b1
  have zf := blk_free K3.b0
  obtain ⟨z0, z1, z2, z3, z4, z5, z6, z7⟩ := cellsOb K3.b0
  clear K3
  go_upto_region 9 with fail
  have hL := HL0.out.2 w3.drew (below_draw HB3.out 1)
  rw [(lock_d n a b l ex HL0.out.1).1, (lock_d n a b l ex HL0.out.1).2] at hL
  have HL := Lib.hid hL
  unfold dO Ob.val at HL
  have HO := Lib.hid (show ¬ O (w.heap.size + 1) ∧ ¬ O w.heap.size ∧ ¬ O (w.heap.size + 1 + 1) from ⟨fun e => by have := HR.out.olt _ e; omega, fun e => by have := HR.out.olt _ e; omega, fun e => by have := HR.out.olt _ e; omega⟩)
  have sI := And.intro x0 (And.intro x1 (And.intro x2 (And.intro x3 (And.intro x4 (And.intro x5 (And.intro x6 (And.intro x7 c0)))))))
  have sD : w3.drew.cell? ⟨w.heap.size + 1, 0, none⟩ = some (.int .i64 8) ∧ w3.drew.cell? ⟨w.heap.size + 1, 1, none⟩ = some (.bool ex) ∧ w3.drew.cell? ⟨w.heap.size + 1, 2, none⟩ = some (.int .i64 0) ∧ w3.drew.cell? ⟨w.heap.size + 1, 3, none⟩ = some (.int .i64 0) ∧ w3.drew.cell? ⟨w.heap.size + 1, 4, none⟩ = some (.string ⟨#[]⟩) ∧ w3.drew.cell? ⟨w.heap.size + 1, 5, none⟩ = some (.int .i64 1) ∧ w3.drew.cell? ⟨w.heap.size + 1, 6, none⟩ = some (.int .i64 0) ∧ w3.drew.cell? ⟨w.heap.size + 1, 7, none⟩ = some (.int .i64 0) ∧ w3.drew.cell? ⟨w.heap.size, 0, none⟩ = some (.pointer (some ⟨s, 0, none⟩)) := sI
  clear hL
  go_cut [7] (fun v wx => v = .int .i64 0 ∧ ∃ w4, Frm O w3 w4 ∧ (∃ fr, Rep O w4 s fr [(⟨8, [], [], [], n, b⟩, l)]) ∧ Put8 w4 (w.heap.size + 1 + 1) 27 (.int .i64 8) (.bool ex) (.int .i64 0) (.int .i64 0) (.string ⟨#[]⟩) (.int .i64 1) (.int .i64 0) (.int .i64 0) wx)
  case first =>
    go_region_held3 (fun w' => w'.cell? ⟨w.heap.size + 1, 0, none⟩ = some (.int .i64 8) ∧ w'.cell? ⟨w.heap.size + 1, 1, none⟩ = some (.bool ex) ∧ w'.cell? ⟨w.heap.size + 1, 2, none⟩ = some (.int .i64 0) ∧ w'.cell? ⟨w.heap.size + 1, 3, none⟩ = some (.int .i64 0) ∧ w'.cell? ⟨w.heap.size + 1, 4, none⟩ = some (.string ⟨#[]⟩) ∧ w'.cell? ⟨w.heap.size + 1, 5, none⟩ = some (.int .i64 1) ∧ w'.cell? ⟨w.heap.size + 1, 6, none⟩ = some (.int .i64 0) ∧ w'.cell? ⟨w.heap.size + 1, 7, none⟩ = some (.int .i64 0) ∧ w'.cell? ⟨w.heap.size, 0, none⟩ = some (.pointer (some ⟨s, 0, none⟩))) (first | with_reducible exact sD | with_reducible exact sI | with_reducible exact sL | with_reducible exact keep9 (by omega) (by omega) sL | fail) ((go_at_call 29; refine HL.out.mono ?_; rintro e wL hT; obtain ⟨rfl, hF, hRL⟩ := turn_ok hT; have sL := cell9 hF HO.out.1 HO.out.2.1 sD; have hz := (hF.block _ (Array.getElem?_eq_some_iff.1 HZ.out).1 HO.out.2.2).trans HZ.out; obtain ⟨r0, r1, r2, r3, r4, r5, r6, r7⟩ := cellsOb hz; have rf := blk_free hz))
    all_goals go_wp2_with fail
    all_goals go_meet
    exact ⟨rfl, wL, ⟨hF.os, hF.tape, hF.output, hF.size, hF.block⟩, ⟨_, hRL⟩, put8 hz _ _ _ _ _ _ _ _⟩
  case rest =>
    obtain ⟨rfl, w4, hF, hR4, hp⟩ := hcut
    have HE4 := Lib.hid (And.intro hF (And.intro hR4 hp))
    clear hF hR4 hp
    go_wp2_with fail
    have hp := HE4.out.2.2
    have hFa : Frm O w wc := ⟨hp.os.trans (HE4.out.1.os.trans HB3.out.os), hp.tape.trans (HE4.out.1.tape.trans HB3.out.tape), hp.output.trans (HE4.out.1.output.trans HB3.out.output), by rw [hp.size]; exact Nat.le_trans HB3.out.size HE4.out.1.size, fun k hk hO => (hp.far k (by omega)).trans ((HE4.out.1.block k (Nat.lt_of_lt_of_le hk HB3.out.size) hO).trans (HB3.out.block k hk))⟩
    refine bodyPost_ret (results_ob2 Tryz.results41 _ _ (w.heap.size + 1 + 1) rfl rfl hp.blk) rfl ⟨hFa, Or.inr ⟨HE.out, dO ex, rfl, ?_⟩⟩
    rw [HM.out]
    obtain ⟨fr4, hR4⟩ := HE4.out.2.1
    exact ⟨HL0.out.1, .inr ⟨rfl, fr4, n, l, ex, hR4.same (by rw [hp.size]; exact Nat.le_refl _) (fun k _ hk => hp.far k (fun e => HO.out.2.2 (by rw [← e]; exact hk))), rfl⟩⟩
theorem bar_at {O : Nat → Prop} {s : Nat} {k a b : Int} {o : Ob} {w : World} (h : Lk O s k a o w) (hb : 1 ≤ b ∧ b ≤ 3) :
    Calls Tryz.prog 41 #[cw s, o.val, .int .i64 b] w (BarP O s k a b o w) := by
  obtain ⟨ha, h | h⟩ := h
  · exact bar_row h ha hb
  · obtain ⟨fr, n, l, ex, hr, rfl⟩ := h.rep
    obtain rfl := h.kd
    by_cases h2 : b = 2
    · exact bar_d2 hr ha hb h2
    by_cases h35 : a = 3 ∧ b ≠ 3
    · exact bar_d5 hr ha hb h2 h35
    by_cases hge : b ≤ a
    · exact bar_d0 hr ha hb h2 h35 hge
    · exact bar_d1 hr ha hb h2 (by omega)
end Cv
end Go.Proofs.YtfilbfenpdaahaaGreatDoor
