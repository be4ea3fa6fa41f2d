/-
  A thing of one kind that is made in both: law10.build, by a contract.
A thing of one kind that is made in both: law10.build, by a contract.
A thing of one kind that is made in both: law10.build, by a contract.
-/
import Derived.Test.YtfilbfenpdaahaaGreatDoorCnvBuild
namespace Go.Proofs.YtfilbfenpdaahaaGreatDoor
open Go.RowKit
open St
open Col
open Mm
namespace Cn
/-- what is carried on: the store, the document's string -/
structure Car6 (O2 : Nat → Prop) (w : World) (s : Nat) (t : Tg) (S : Nat) (l : Lay) (W : World) : Prop where
  rep : ∃ fr, Rep O2 W s fr ([] ++ [(⟨6, t.text.data.toList, [], [], 0, 0⟩, l)])
  str : StrAt W S t.text.data.toList
  lo : w.heap.size + 5 ≤ S ∧ ∀ B c born, W.heap[S]? = some (strC (.slice (some ⟨B, 0, none⟩) t.text.data.toList.length c) born) → w.heap.size + 5 ≤ B
theorem Car6.put {O O2 : Nat → Prop} {w : World} {s : Nat} {t : Tg} {S : Nat} {l : Lay} {W W' : World} (h : Car6 O2 w s t S l W) (hO2 : ∀ k, O2 k → O k ∨ w.heap.size + 5 ≤ k) (hO : ∀ k, O k → k < w.heap.size) (hf : ∀ k, (k < w.heap.size ∨ w.heap.size + 5 ≤ k) → W'.heap[k]? = W.heap[k]?) (hs : W'.heap.size = W.heap.size) : Car6 O2 w s t S l W' := by
  obtain ⟨fr, hr⟩ := h.rep
  have hS := h.lo.1
  refine ⟨⟨fr, hr.same (by rw [hs]; exact Nat.le_refl _) (fun k _ hk => hf k (by rcases hO2 k hk with e | e; exact .inl (hO k e); exact .inr e))⟩, ?_, hS, ?_⟩
  · obtain ⟨B, c, born, h1, h2⟩ := h.str
    have hB := h.lo.2 B c born h1
    refine ⟨B, c, born, (hf S (.inr hS)).trans h1, owns_same h2 (fun q hq => ?_)⟩
    have : B = q := by simpa [isB, Value.ownBlock] using hq
    exact hf q (.inr (by omega))
  · intro B c born hb
    rw [hf S (.inr hS)] at hb
    exact h.lo.2 B c born hb
set_option maxRecDepth 100000 in
set_option maxHeartbeats 1000000 in
theorem build_6 {O : Nat → Prop} {w : World} {s M : Nat} (h : Rep O w s 500 []) (hM : w.heap[M]? = some (memC 500 0 (.slice none 0 0) (.slice none 0 0) (.slice none 0 0) 0)) (hMO : ¬ O M) (t : Tg) (hbad : t.bad = false) (hk : t.kind = 6) :
    Calls Tryz.prog 13 #[.pointer (some ⟨s, 0, none⟩), .pointer (some ⟨M, 0, none⟩), t.val] w (Bld O w s M t) := by
  have HBd := Lib.hid hbad
  obtain ⟨d1, d2, d3, d4, d5, d6⟩ := Tg.good hbad
  have hMlt : M < w.heap.size := (Array.getElem?_eq_some_iff.1 hM).1
  have hOM : ∀ k, OM O M k → k < w.heap.size := fun k hk => by rcases hk with e | e; exact h.olt k e; omega
  have hbx := five_bx (O := OM O M) t hOM
  have hb5 := five_below w t
  have hR5 := h.below hb5
  have hM5 := (hb5.block M hMlt).trans hM
  have HSz := Lib.hid (five_size w t)
  have HK := Lib.hid hk
  clear hk
  unfold Tg.val
  clear hbad
  go_enter Tryz.func13, Tryz.ntmps13
  go_upto_region 6 with fail
  change Code.wp _ _ _ _ (five w t)
  generalize hW : five w t = W at *
  have hMW : M < W.heap.size := by have := HSz.out; omega
  obtain ⟨tb, b1, b2, b3, b4⟩ := boxes_at hbx
  unfold tgC at tb
  have t0 : W.cell? ⟨w.heap.size, 0, none⟩ = some (.int .i64 t.kind) := blk_cell tb 0
  have t1 : W.cell? ⟨w.heap.size, 1, none⟩ = some (.int .i64 t.n) := blk_cell tb 1
  have t2 : W.cell? ⟨w.heap.size, 2, none⟩ = some (.int .i64 t.acc) := blk_cell tb 2
  have t3 : W.cell? ⟨w.heap.size, 3, none⟩ = some (.string t.name) := blk_cell tb 3
  have t4 : W.cell? ⟨w.heap.size, 4, none⟩ = some (.string t.text) := blk_cell tb 4
  have t5 : W.cell? ⟨w.heap.size, 5, none⟩ = some (.bool t.exec) := blk_cell tb 5
  clear hW
  rw [HK.out] at t0
  clear tb b1 b2 b3 b4
  obtain ⟨c1, W1, hc1, hs1, hb1, hl1⟩ := s2b W t.text
  have hlen : t.text.data.toList.length = t.text.size := by rw [← size_list]
  have hl5 : t.text.size ≤ 500 := by have := of_decide_eq_false d5; omega
  have hT1 := text_at (c := c1) (hR5.below hb1) hs1
  rw [hlen] at hT1
  have HT1 := Lib.hid hT1
  have HBx1 := Lib.hid (hbx.below hb1)
  have HM1 := Lib.hid ((hb1.block M hMW).trans hM5)
  have hlt := h.olt
  have HH := Lib.hid (And.intro hMO (And.intro hOM (And.intro hMlt (And.intro hb5 (And.intro hlt (show w.heap.size + 5 ≤ W1.heap.size by have := HSz.out; have := hb1.size; omega))))))
  have HL := Lib.hid hlen
  clear hs1 hb1 hT1 hbx hM5 hR5 hMO hOM hb5 hM h hlen hlt
  go_wp2_with fail
  refine HT1.out.mono ?_; rintro e W2 hM
  rcases hM with ⟨hne, _⟩ | ⟨_, rfl, l, hR2, hF2⟩
  · exact absurd (by unfold clm mostI cellsI; simp; omega) hne
  have hbx2 := HBx1.out.frm (hF2.mono (fun k _ hk => Or.inl hk))
  have hM2 := (hF2.block M (by have := HBx1.out.1.size; omega) HH.out.1).trans HM1.out
  have hO2 : ∀ k, Up O W1 W2 k → O k ∨ w.heap.size + 5 ≤ k := fun k hk => by
    rcases hk with e | e
    · exact .inl e
    · exact .inr (by have := HH.out.2.2.2.2.2; omega)
  generalize Up O W1 W2 = O2 at hR2 hO2
  have HO2 := Lib.hid hO2
  obtain ⟨tb, b1, b2, b3, b4⟩ := boxes_at hbx2
  unfold obC nul at b3
  obtain ⟨x0, x1, x2, x3, x4, x5, x6, x7⟩ := cellsOb b3
  have xf := blk_free b3
  have HB3 := Lib.hid b3
  have HBx2 := Lib.hid hbx2
  have HM2 := Lib.hid hM2
  have HR2 := Lib.hid hR2
  clear tb b1 b2 b3 b4 hbx2 hM2 hR2 hF2 hO2 t0 t1 t2 t3 t4 t5 HT1 HBx1 HM1 hc1
  have hno : newOb ⟨6, t.text.data.toList, [], [], 0, 0⟩ (List.length ([] : List (Th × Lay))) = ⟨6, false, 0, 0, ⟨#[]⟩, 1, 0, t.text.size⟩ := by simp [newOb, Th.length]
  rw [hno]
  unfold Ob.val
  clear hno
  go_upto_region 11 with fail
  have hp := put8 HB3.out (.int .i64 6) (.bool false) (.int .i64 0) (.int .i64 0) (.string ⟨#[]⟩) (.int .i64 1) (.int .i64 0) (.int .i64 t.text.size)
  generalize hW3 : ((((((((W2.setCell ⟨w.heap.size + 1 + 1 + 1, 0, none⟩ (.int .i64 6)).setCell ⟨w.heap.size + 1 + 1 + 1, 1, none⟩ (.bool false)).setCell ⟨w.heap.size + 1 + 1 + 1, 2, none⟩ (.int .i64 0)).setCell ⟨w.heap.size + 1 + 1 + 1, 3, none⟩ (.int .i64 0)).setCell ⟨w.heap.size + 1 + 1 + 1, 4, none⟩ (.string ⟨#[]⟩)).setCell ⟨w.heap.size + 1 + 1 + 1, 5, none⟩ (.int .i64 1)).setCell ⟨w.heap.size + 1 + 1 + 1, 6, none⟩ (.int .i64 0)).setCell ⟨w.heap.size + 1 + 1 + 1, 7, none⟩ (.int .i64 t.text.size)) = W3 at hp ⊢
  clear hW3 x0 x1 x2 x3 x4 x5 x6 x7 xf HB3
  have hbx3 := boxes_o (o' := ⟨6, false, 0, 0, ⟨#[]⟩, 1, 0, t.text.size⟩) HBx2.out hp.blk hp.far hp.size hp.os hp.tape hp.output
  have hM3 := (hp.far M (by have := HH.out.2.2.1; omega)).trans HM2.out
  have hR3 := HR2.out.same (w' := W3) (by rw [hp.size]; exact Nat.le_refl _) (fun k hk hO => hp.far k (by
    rcases HO2.out k hO with e | e
    · have := HH.out.2.2.2.2.1 k e; omega
    · omega))
  clear hp HBx2 HM2 HR2
  obtain ⟨c4, W4, hc4, hs4, hb4, hl4⟩ := s2b W3 t.text
  obtain ⟨tb, b1, b2, b3, b4⟩ := boxes_at hbx3
  unfold tgC at tb
  have u4 : W3.cell? ⟨w.heap.size, 4, none⟩ = some (.string t.text) := blk_cell tb 4
  have hM3lt := (Array.getElem?_eq_some_iff.1 hM3).1
  have hT4 := mtext_at (c0 := c4) ((hb4.block M hM3lt).trans hM3) (by omega) (by omega) (by omega) hs4 (fun e => by cases e) (fun ad e => by cases e; show W3.heap.size ≠ M; omega) (by rw [HL.out]; omega)
  rw [HL.out] at hT4
  have HT4 := Lib.hid hT4
  have HS4 := Lib.hid (show w.heap.size + 5 ≤ W4.heap.size by have := (Array.getElem?_eq_some_iff.1 b4).1; have := hb4.size; omega)
  have HBx4 := Lib.hid (hbx3.below hb4)
  have HR4 := Lib.hid (hR3.below hb4)
  clear hT4 hs4 hb4 hM3 hbx3 hR3 tb b1 b2 b3 b4
  go_wp2_with fail
  refine HT4.out.mono ?_; rintro e W5 hP
  rcases hP with ⟨hne, _⟩ | ⟨_, S, B, c, rfl, hTW⟩
  · refine absurd ?_ hne
    unfold tkE
    have hL := HL.out
    rw [if_neg (by omega), if_neg (by omega), if_neg (by omega)]
  have hbx5 := HBx4.out.frm (hTW.frm.mono (fun k _ hk => Or.inr hk))
  have hR5 := HR4.out.same hTW.frm.size (fun k hk hO => hTW.frm.block k hk (fun e => by
    rcases HO2.out k hO with e1 | e1
    · rw [e] at e1; exact HH.out.1 e1
    · have := HH.out.2.2.1; omega))
  have hSt : StrAt W5 S t.text.data.toList := ⟨B, c, _, by have := hTW.str; rw [HL.out]; exact this, by have := hTW.row; rw [HL.out]; exact this⟩
  have hSlo : w.heap.size + 5 ≤ S ∧ w.heap.size + 5 ≤ B := ⟨by have := hTW.s0; have := HS4.out; omega, by have := hTW.b0; have := HS4.out; omega⟩
  obtain ⟨tb, b1, b2, b3, b4⟩ := boxes_at hbx5
  unfold tgC at tb
  have u0 : W5.cell? ⟨w.heap.size, 0, none⟩ = some (.int .i64 6) := by rw [← HK.out]; exact blk_cell tb 0
  have u2 : W5.cell? ⟨w.heap.size, 2, none⟩ = some (.int .i64 t.acc) := blk_cell tb 2
  have u5 : W5.cell? ⟨w.heap.size, 5, none⟩ = some (.bool t.exec) := blk_cell tb 5
  unfold vlC nulV at b4
  obtain ⟨y0, y1, y2, y3, y4, y5, y6, y7, y8, y9, yf⟩ := cells10 b4
  have HB4 := Lib.hid b4
  have HBx5 := Lib.hid hbx5
  have HF5 := Lib.hid (And.intro hR5 (And.intro hSt (And.intro hSlo.1 (And.intro (show W5.heap[S]? = some (strC (.slice (some ⟨B, 0, none⟩) t.text.data.toList.length c) (0 + 1)) by rw [HL.out]; exact hTW.str) hSlo.2))))
  clear tb b1 b2 b3 b4 hbx5 hR5 hSt hSlo hTW hc4 u4 HT4 HBx4 HR4
  unfold strV Vl.val
  go_upto_region 25 with fail
  have hp := put10 HB4.out (.int .i64 6) (.bool false) (.int .i64 0) (.int .i64 0) (.string ⟨#[]⟩) (.pointer (some ⟨S, 0, none⟩)) (.pointer none) (.pointer none) (.int .i64 0) (.int .i64 t.text.size)
  generalize hW6 : ((((((((((W5.setCell ⟨w.heap.size + 1 + 1 + 1 + 1, 0, none⟩ (.int .i64 6)).setCell ⟨w.heap.size + 1 + 1 + 1 + 1, 1, none⟩ (.bool false)).setCell ⟨w.heap.size + 1 + 1 + 1 + 1, 2, none⟩ (.int .i64 0)).setCell ⟨w.heap.size + 1 + 1 + 1 + 1, 3, none⟩ (.int .i64 0)).setCell ⟨w.heap.size + 1 + 1 + 1 + 1, 4, none⟩ (.string ⟨#[]⟩)).setCell ⟨w.heap.size + 1 + 1 + 1 + 1, 5, none⟩ (.pointer (some ⟨S, 0, none⟩))).setCell ⟨w.heap.size + 1 + 1 + 1 + 1, 6, none⟩ (.pointer none)).setCell ⟨w.heap.size + 1 + 1 + 1 + 1, 7, none⟩ (.pointer none)).setCell ⟨w.heap.size + 1 + 1 + 1 + 1, 8, none⟩ (.int .i64 0)).setCell ⟨w.heap.size + 1 + 1 + 1 + 1, 9, none⟩ (.int .i64 t.text.size)) = W6 at hp ⊢
  have hbx := boxes_v (v' := ⟨6, false, 0, 0, ⟨#[]⟩, .pointer (some ⟨S, 0, none⟩), .pointer none, .pointer none, 0, t.text.size⟩) HBx5.out hp.blk hp.far hp.size hp.os hp.tape hp.output
  have hcar : Car6 O2 w s t S l W6 := Car6.put ⟨⟨_, HF5.out.1⟩, HF5.out.2.1, HF5.out.2.2.1, fun B' c' b' hb => by rw [HF5.out.2.2.2.1] at hb; cases hb; exact HF5.out.2.2.2.2⟩ HO2.out HH.out.2.2.2.2.1 (fun k h1 => hp.far k (by omega)) hp.size
  have HF := Lib.hid hcar
  clear hp hW6 u0 u2 u5 y0 y1 y2 y3 y4 y5 y6 y7 y8 y9 yf HB4 HBx5 HF5 hcar
  obtain ⟨tb, b1, b2, b3, b4⟩ := boxes_at hbx
  unfold tgC at tb
  have u0 : W6.cell? ⟨w.heap.size, 0, none⟩ = some (.int .i64 6) := by rw [← HK.out]; exact blk_cell tb 0
  have u2 : W6.cell? ⟨w.heap.size, 2, none⟩ = some (.int .i64 t.acc) := blk_cell tb 2
  have u5 : W6.cell? ⟨w.heap.size, 5, none⟩ = some (.bool t.exec) := blk_cell tb 5
  unfold obC nul at b1
  unfold obC at b3
  unfold vlC nulV at b2
  unfold vlC at b4
  obtain ⟨x0, x1, x2, x3, x4, x5, x6, x7⟩ := cellsOb b3
  have xf := blk_free b3
  obtain ⟨y0, y1, y2, y3, y4, y5, y6, y7, y8, y9, yf⟩ := cells10 b4
  have HB3 := Lib.hid b3
  have HB4 := Lib.hid b4
  have HB1 := Lib.hid b1
  have HB2 := Lib.hid b2
  have HBX := Lib.hid hbx
  clear tb b1 b2 b3 b4 hbx
  go_upto_region 26 with fail
  go_region
  go_upto_region 27 with fail
  generalize hWx : ((W6.setCell ⟨w.heap.size + 1 + 1 + 1, 2, none⟩ (.int .i64 t.acc)).setCell ⟨w.heap.size + 1 + 1 + 1 + 1, 2, none⟩ (.int .i64 t.acc)).drew = Wa at *
  have hA : Bx (OM O M) w (boxes w t (obC nul) (vlC nulV) ⟨6, false, t.acc, 0, ⟨#[]⟩, 1, 0, t.text.size⟩ ⟨6, false, 0, 0, ⟨#[]⟩, .pointer (some ⟨S, 0, none⟩), .pointer none, .pointer none, 0, t.text.size⟩) (W6.setCell ⟨w.heap.size + 1 + 1 + 1, 2, none⟩ (.int .i64 t.acc)) := boxes_o (o' := ⟨6, false, t.acc, 0, ⟨#[]⟩, 1, 0, t.text.size⟩) HBX.out (blk_set HB3.out 2 (.int .i64 t.acc)) (fun k hk => blk_far hk _) (setC_size _ _ _) rfl rfl rfl
  have hbx : Bx (OM O M) w (boxes w t (obC nul) (vlC nulV) ⟨6, false, t.acc, 0, ⟨#[]⟩, 1, 0, t.text.size⟩ ⟨6, false, t.acc, 0, ⟨#[]⟩, .pointer (some ⟨S, 0, none⟩), .pointer none, .pointer none, 0, t.text.size⟩) Wa := by
    rw [← hWx]
    exact (boxes_v (v' := ⟨6, false, t.acc, 0, ⟨#[]⟩, .pointer (some ⟨S, 0, none⟩), .pointer none, .pointer none, 0, t.text.size⟩) hA (blk_set ((blk_far (by omega) _).trans HB4.out) 2 (.int .i64 t.acc)) (fun k hk => blk_far hk _) (setC_size _ _ _) rfl rfl rfl).drews 1
  have hfar : ∀ k, (k < w.heap.size ∨ w.heap.size + 5 ≤ k) → Wa.heap[k]? = W6.heap[k]? := fun k h1 => by
    rw [← hWx]
    exact (blk_far (by omega) _).trans (blk_far (by omega) _)
  have hsz : Wa.heap.size = W6.heap.size := by
    rw [← hWx]
    show ((_ : World).setCell _ _).heap.size = _
    rw [setC_size, setC_size]
  clear hWx hA
  clear u0 u2 u5 x0 x1 x2 x3 x4 x5 x6 x7 xf y0 y1 y2 y3 y4 y5 y6 y7 y8 y9 yf HB3 HB4 HB1 HB2
  have HC := Lib.hid (Car6.put HF.out HO2.out HH.out.2.2.2.2.1 hfar hsz)
  clear HF hfar hsz HBX
  have HF := Lib.hid HC.out
  clear HC
  obtain ⟨tb, b1, b2, b3, b4⟩ := boxes_at hbx
  unfold tgC at tb
  have u0 : Wa.cell? ⟨w.heap.size, 0, none⟩ = some (.int .i64 6) := by rw [← HK.out]; exact blk_cell tb 0
  have u2 : Wa.cell? ⟨w.heap.size, 2, none⟩ = some (.int .i64 t.acc) := blk_cell tb 2
  have u5 : Wa.cell? ⟨w.heap.size, 5, none⟩ = some (.bool t.exec) := blk_cell tb 5
  unfold obC nul at b1
  unfold obC at b3
  unfold vlC nulV at b2
  unfold vlC at b4
  obtain ⟨x0, x1, x2, x3, x4, x5, x6, x7⟩ := cellsOb b3
  have xf := blk_free b3
  obtain ⟨y0, y1, y2, y3, y4, y5, y6, y7, y8, y9, yf⟩ := cells10 b4
  have HB3 := Lib.hid b3
  have HB4 := Lib.hid b4
  have HB1 := Lib.hid b1
  have HB2 := Lib.hid b2
  have HBX := Lib.hid hbx
  clear tb b1 b2 b3 b4 hbx
  go_region
  go_upto_region 28 with fail
  generalize hWx : ((Wa.setCell ⟨w.heap.size + 1 + 1 + 1, 1, none⟩ (.bool t.exec)).setCell ⟨w.heap.size + 1 + 1 + 1 + 1, 1, none⟩ (.bool t.exec)).drew = We at *
  have hA : Bx (OM O M) w (boxes w t (obC nul) (vlC nulV) ⟨6, t.exec, t.acc, 0, ⟨#[]⟩, 1, 0, t.text.size⟩ ⟨6, false, t.acc, 0, ⟨#[]⟩, .pointer (some ⟨S, 0, none⟩), .pointer none, .pointer none, 0, t.text.size⟩) (Wa.setCell ⟨w.heap.size + 1 + 1 + 1, 1, none⟩ (.bool t.exec)) := boxes_o (o' := ⟨6, t.exec, t.acc, 0, ⟨#[]⟩, 1, 0, t.text.size⟩) HBX.out (blk_set HB3.out 1 (.bool t.exec)) (fun k hk => blk_far hk _) (setC_size _ _ _) rfl rfl rfl
  have hbx : Bx (OM O M) w (boxes w t (obC nul) (vlC nulV) ⟨6, t.exec, t.acc, 0, ⟨#[]⟩, 1, 0, t.text.size⟩ ⟨6, t.exec, t.acc, 0, ⟨#[]⟩, .pointer (some ⟨S, 0, none⟩), .pointer none, .pointer none, 0, t.text.size⟩) We := by
    rw [← hWx]
    exact (boxes_v (v' := ⟨6, t.exec, t.acc, 0, ⟨#[]⟩, .pointer (some ⟨S, 0, none⟩), .pointer none, .pointer none, 0, t.text.size⟩) hA (blk_set ((blk_far (by omega) _).trans HB4.out) 1 (.bool t.exec)) (fun k hk => blk_far hk _) (setC_size _ _ _) rfl rfl rfl).drews 1
  have hfar : ∀ k, (k < w.heap.size ∨ w.heap.size + 5 ≤ k) → We.heap[k]? = Wa.heap[k]? := fun k h1 => by
    rw [← hWx]
    exact (blk_far (by omega) _).trans (blk_far (by omega) _)
  have hsz : We.heap.size = Wa.heap.size := by
    rw [← hWx]
    show ((_ : World).setCell _ _).heap.size = _
    rw [setC_size, setC_size]
  clear hWx hA
  clear u0 u2 u5 x0 x1 x2 x3 x4 x5 x6 x7 xf y0 y1 y2 y3 y4 y5 y6 y7 y8 y9 yf HB3 HB4 HB1 HB2
  have HC := Lib.hid (Car6.put HF.out HO2.out HH.out.2.2.2.2.1 hfar hsz)
  clear HF hfar hsz HBX
  have HF := Lib.hid HC.out
  clear HC
  obtain ⟨tb, b1, b2, b3, b4⟩ := boxes_at hbx
  unfold tgC at tb
  have u0 : We.cell? ⟨w.heap.size, 0, none⟩ = some (.int .i64 6) := by rw [← HK.out]; exact blk_cell tb 0
  have u2 : We.cell? ⟨w.heap.size, 2, none⟩ = some (.int .i64 t.acc) := blk_cell tb 2
  have u5 : We.cell? ⟨w.heap.size, 5, none⟩ = some (.bool t.exec) := blk_cell tb 5
  unfold obC nul at b1
  unfold obC at b3
  unfold vlC nulV at b2
  unfold vlC at b4
  obtain ⟨x0, x1, x2, x3, x4, x5, x6, x7⟩ := cellsOb b3
  have xf := blk_free b3
  obtain ⟨y0, y1, y2, y3, y4, y5, y6, y7, y8, y9, yf⟩ := cells10 b4
  have HB3 := Lib.hid b3
  have HB4 := Lib.hid b4
  have HB1 := Lib.hid b1
  have HB2 := Lib.hid b2
  have HBX := Lib.hid hbx
  clear tb b1 b2 b3 b4 hbx
  have sI := And.intro x0 (And.intro x1 (And.intro x2 (And.intro x3 (And.intro x4 (And.intro x5 (And.intro x6 (And.intro x7 (And.intro y0 (And.intro y1 (And.intro y2 (And.intro y3 (And.intro y4 (And.intro y5 (And.intro y6 (And.intro y7 (And.intro y8 y9))))))))))))))))
  obtain ⟨p0, p1, p2, p3, p4, p5, p6, p7⟩ := cellsOb HB1.out
  have pf := blk_free HB1.out
  obtain ⟨q0, q1, q2, q3, q4, q5, q6, q7, q8, q9, qf⟩ := cells10 HB2.out
  have sD : We.drew.cell? ⟨w.heap.size + 1 + 1 + 1, 0, none⟩ = some (.int .i64 6) ∧ We.drew.cell? ⟨w.heap.size + 1 + 1 + 1, 1, none⟩ = some (.bool t.exec) ∧ We.drew.cell? ⟨w.heap.size + 1 + 1 + 1, 2, none⟩ = some (.int .i64 t.acc) ∧ We.drew.cell? ⟨w.heap.size + 1 + 1 + 1, 3, none⟩ = some (.int .i64 0) ∧ We.drew.cell? ⟨w.heap.size + 1 + 1 + 1, 4, none⟩ = some (.string ⟨#[]⟩) ∧ We.drew.cell? ⟨w.heap.size + 1 + 1 + 1, 5, none⟩ = some (.int .i64 1) ∧ We.drew.cell? ⟨w.heap.size + 1 + 1 + 1, 6, none⟩ = some (.int .i64 0) ∧ We.drew.cell? ⟨w.heap.size + 1 + 1 + 1, 7, none⟩ = some (.int .i64 t.text.size) ∧ We.drew.cell? ⟨w.heap.size + 1 + 1 + 1 + 1, 0, none⟩ = some (.int .i64 6) ∧ We.drew.cell? ⟨w.heap.size + 1 + 1 + 1 + 1, 1, none⟩ = some (.bool t.exec) ∧ We.drew.cell? ⟨w.heap.size + 1 + 1 + 1 + 1, 2, none⟩ = some (.int .i64 t.acc) ∧ We.drew.cell? ⟨w.heap.size + 1 + 1 + 1 + 1, 3, none⟩ = some (.int .i64 0) ∧ We.drew.cell? ⟨w.heap.size + 1 + 1 + 1 + 1, 4, none⟩ = some (.string ⟨#[]⟩) ∧ We.drew.cell? ⟨w.heap.size + 1 + 1 + 1 + 1, 5, none⟩ = some (.pointer (some ⟨S, 0, none⟩)) ∧ We.drew.cell? ⟨w.heap.size + 1 + 1 + 1 + 1, 6, none⟩ = some (.pointer none) ∧ We.drew.cell? ⟨w.heap.size + 1 + 1 + 1 + 1, 7, none⟩ = some (.pointer none) ∧ We.drew.cell? ⟨w.heap.size + 1 + 1 + 1 + 1, 8, none⟩ = some (.int .i64 0) ∧ We.drew.cell? ⟨w.heap.size + 1 + 1 + 1 + 1, 9, none⟩ = some (.int .i64 t.text.size) := sI
  go_region_held3 (fun w' => w'.cell? ⟨w.heap.size + 1 + 1 + 1, 0, none⟩ = some (.int .i64 6) ∧ w'.cell? ⟨w.heap.size + 1 + 1 + 1, 1, none⟩ = some (.bool t.exec) ∧ w'.cell? ⟨w.heap.size + 1 + 1 + 1, 2, none⟩ = some (.int .i64 t.acc) ∧ w'.cell? ⟨w.heap.size + 1 + 1 + 1, 3, none⟩ = some (.int .i64 0) ∧ w'.cell? ⟨w.heap.size + 1 + 1 + 1, 4, none⟩ = some (.string ⟨#[]⟩) ∧ w'.cell? ⟨w.heap.size + 1 + 1 + 1, 5, none⟩ = some (.int .i64 1) ∧ w'.cell? ⟨w.heap.size + 1 + 1 + 1, 6, none⟩ = some (.int .i64 0) ∧ w'.cell? ⟨w.heap.size + 1 + 1 + 1, 7, none⟩ = some (.int .i64 t.text.size) ∧ w'.cell? ⟨w.heap.size + 1 + 1 + 1 + 1, 0, none⟩ = some (.int .i64 6) ∧ w'.cell? ⟨w.heap.size + 1 + 1 + 1 + 1, 1, none⟩ = some (.bool t.exec) ∧ w'.cell? ⟨w.heap.size + 1 + 1 + 1 + 1, 2, none⟩ = some (.int .i64 t.acc) ∧ w'.cell? ⟨w.heap.size + 1 + 1 + 1 + 1, 3, none⟩ = some (.int .i64 0) ∧ w'.cell? ⟨w.heap.size + 1 + 1 + 1 + 1, 4, none⟩ = some (.string ⟨#[]⟩) ∧ w'.cell? ⟨w.heap.size + 1 + 1 + 1 + 1, 5, none⟩ = some (.pointer (some ⟨S, 0, none⟩)) ∧ w'.cell? ⟨w.heap.size + 1 + 1 + 1 + 1, 6, none⟩ = some (.pointer none) ∧ w'.cell? ⟨w.heap.size + 1 + 1 + 1 + 1, 7, none⟩ = some (.pointer none) ∧ w'.cell? ⟨w.heap.size + 1 + 1 + 1 + 1, 8, none⟩ = some (.int .i64 0) ∧ w'.cell? ⟨w.heap.size + 1 + 1 + 1 + 1, 9, none⟩ = some (.int .i64 t.text.size)) (first | with_reducible exact sD | with_reducible exact sI | with_reducible exact keep18a sI | with_reducible exact keep18b sI | with_reducible exact keep18a sI | with_reducible exact keep18b sI | fail) (fail)
  go_wp2_with fail
  have hfin := (fin2 HB1.out HB2.out (by omega) (.int .i64 6) (.bool t.exec) (.int .i64 t.acc) (.int .i64 0) (.string ⟨#[]⟩) (.int .i64 1) (.int .i64 0) (.int .i64 t.text.size) (.int .i64 6) (.bool t.exec) (.int .i64 t.acc) (.int .i64 0) (.string ⟨#[]⟩) (.pointer (some ⟨S, 0, none⟩)) (.pointer none) (.pointer none) (.int .i64 0) (.int .i64 t.text.size)).drew 1
  have hfar : ∀ k, (k < w.heap.size ∨ w.heap.size + 5 ≤ k) → _ = We.heap[k]? := fun k h1 => hfin.far k (by omega) (by omega)
  refine bodyPost_ret (results_bld Tryz.results13 _ _ (w.heap.size + 1) (w.heap.size + 1 + 1) rfl rfl rfl hfin.b1 hfin.b2) rfl ⟨⟨6, t.exec, t.acc, 0, ⟨#[]⟩, 1, 0, t.text.size⟩, ⟨6, t.exec, t.acc, 0, ⟨#[]⟩, .pointer (some ⟨S, 0, none⟩), .pointer none, .pointer none, 0, t.text.size⟩, true, rfl, ⟨_, _, _, rfl, rfl, rfl⟩, hfin.frm HBX.out.1 (by omega) (by omega), fun _ => ?_⟩
  have hC := Car6.put HF.out HO2.out HH.out.2.2.2.2.1 hfar hfin.size
  obtain ⟨fr, hr⟩ := hC.rep
  exact ⟨O2, fr, _, hr, fun k hk => (HO2.out k hk).imp id (fun e => by omega), HBd.out, Or.inl ⟨HK.out, rfl, ⟨l, rfl⟩, S, by unfold strOf; rw [HL.out], hC.str⟩⟩
end Cn
end Go.Proofs.YtfilbfenpdaahaaGreatDoor
namespace Go.Proofs.YtfilbfenpdaahaaGreatDoor
open Go.RowKit
open St
open Col
open Mm
namespace Cn
/-- what is carried on: the store -/
def Car7 (O2 : Nat → Prop) (s : Nat) (G : List (Th × Lay)) (W : World) : Prop := ∃ fr, Rep O2 W s fr G
theorem Car7.put {O O2 : Nat → Prop} {w : World} {s : Nat} {G : List (Th × Lay)} {W W' : World} (h : Car7 O2 s G W) (hO2 : ∀ k, O2 k → O k ∨ w.heap.size + 5 ≤ k) (hO : ∀ k, O k → k < w.heap.size) (hf : ∀ k, (k < w.heap.size ∨ w.heap.size + 5 ≤ k) → W'.heap[k]? = W.heap[k]?) (hs : W'.heap.size = W.heap.size) : Car7 O2 s G W' := by
  obtain ⟨fr, hr⟩ := h
  exact ⟨fr, hr.same (by rw [hs]; exact Nat.le_refl _) (fun k _ hk => hf k (by rcases hO2 k hk with e | e; exact .inl (hO k e); exact .inr e))⟩
def nvals (n : Nat) : Array Value := madeCells zeroVl (n * 10)
theorem nvals_list (n : Nat) : (nvals n).toList = (List.replicate n zeroVl.toList).flatten := by
  unfold nvals
  have e := made_list zeroVl.toList 10 rfl (by decide) n
  simpa using e
theorem nvals_len (n : Nat) : (nvals n).toList.length = n * 10 := by
  rw [nvals_list]
  induction n with
  | zero => rfl
  | succ n ih => rw [List.replicate_succ, List.flatten_cons, List.length_append, ih]; simp [zeroVl]; omega
theorem nvals_one (n : Nat) : ∀ u ∈ (nvals n).toList, u.oneCell' = true := by
  rw [nvals_list]
  intro u hu
  obtain ⟨l, hl, hu⟩ := List.mem_flatten.1 hu
  obtain ⟨_, rfl⟩ := List.mem_replicate.1 hl
  simp [zeroVl] at hu
  rcases hu with rfl | rfl | rfl | rfl | rfl | rfl <;> rfl
theorem make_vals (n : Nat) (hn : n ≤ 65535) (w : World) : (Instr.makeSlice 85 (.int .i64 n) (.int .i64 n)).run Tryz.prog w = .ok (.slice (some ⟨w.heap.size, 0, none⟩) n n) (w.alloc (.cells (nvals n) 53)) := by
  obtain ⟨i0, hi, hz0, hz1, hz2⟩ := info_parts val_info
  have h := run_make (P := Tryz.prog) w 85 53 i0 _ Tryz.underlying85 hi hz0 .i64 .i64 n n (by omega) (Int.le_refl _) (by rw [hz2]; omega) (by omega)
  rw [hz1] at h
  simpa [nvals, Value.cells] using h
set_option maxRecDepth 100000 in
set_option maxHeartbeats 1000000 in
theorem build_7 {O : Nat → Prop} {w : World} {s M : Nat} (h : Rep O w s 500 []) (hM : w.heap[M]? = some (memC 500 0 (.slice none 0 0) (.slice none 0 0) (.slice none 0 0) 0)) (hMO : ¬ O M) (t : Tg) (hbad : t.bad = false) (hk : t.kind = 7) (h0 : 0 ≤ t.n) (h20 : t.n ≤ 20) :
    Calls Tryz.prog 13 #[.pointer (some ⟨s, 0, none⟩), .pointer (some ⟨M, 0, none⟩), t.val] w (Bld O w s M t) := by
  have HBd := Lib.hid hbad
  obtain ⟨d1, d2, d3, d4, d5, d6⟩ := Tg.good hbad
  have hMlt : M < w.heap.size := (Array.getElem?_eq_some_iff.1 hM).1
  have hOM : ∀ k, OM O M k → k < w.heap.size := fun k hk => by rcases hk with e | e; exact h.olt k e; omega
  have hbx := five_bx (O := OM O M) t hOM
  have hb5 := five_below w t
  have hR5 := h.below hb5
  have hM5 := (hb5.block M hMlt).trans hM
  have HSz := Lib.hid (five_size w t)
  have HK := Lib.hid hk
  obtain ⟨k, hkn⟩ : ∃ k : Nat, t.n = k := ⟨t.n.toNat, by omega⟩
  have hk20 : k ≤ 20 := by omega
  have HN := Lib.hid hkn
  have g1 : decide ((k : Int) < 0) = false := decide_eq_false (by omega)
  have g2 : decide ((20 : Int) < (k : Int)) = false := decide_eq_false (by omega)
  clear hk h0 h20 hkn
  unfold Tg.val
  clear hbad
  go_enter Tryz.func13, Tryz.ntmps13
  go_upto_region 6 with fail
  change Code.wp _ _ _ _ (five w t)
  generalize hW : five w t = W at *
  have hMW : M < W.heap.size := by have := HSz.out; omega
  obtain ⟨tb, b1, b2, b3, b4⟩ := boxes_at hbx
  unfold tgC at tb
  have t0 : W.cell? ⟨w.heap.size, 0, none⟩ = some (.int .i64 t.kind) := blk_cell tb 0
  have t1 : W.cell? ⟨w.heap.size, 1, none⟩ = some (.int .i64 t.n) := blk_cell tb 1
  have t2 : W.cell? ⟨w.heap.size, 2, none⟩ = some (.int .i64 t.acc) := blk_cell tb 2
  have t3 : W.cell? ⟨w.heap.size, 3, none⟩ = some (.string t.name) := blk_cell tb 3
  have t4 : W.cell? ⟨w.heap.size, 4, none⟩ = some (.string t.text) := blk_cell tb 4
  have t5 : W.cell? ⟨w.heap.size, 5, none⟩ = some (.bool t.exec) := blk_cell tb 5
  clear hW
  rw [HK.out] at t0
  rw [HN.out] at t1
  clear tb b1 b2 b3 b4
  have hlt := h.olt
  have HT1 := Lib.hid (array_at hR5 k)
  have HBx1 := Lib.hid hbx
  have HM1 := Lib.hid hM5
  have HH := Lib.hid (And.intro hMO (And.intro hOM (And.intro hMlt (And.intro hb5 hlt))))
  clear hbx hM5 hR5 hMO hOM hb5 hM h hlt
  go_wp2_with fail
  refine HT1.out.mono ?_; rintro e W2 hM
  rcases hM with ⟨hne, _⟩ | ⟨_, rfl, l, hR2, hF2⟩
  · exact absurd (by unfold clm mostI cellsI; simp; omega) hne
  have hbx2 := HBx1.out.frm (hF2.mono (fun k _ hk => Or.inl hk))
  have hM2 := (hF2.block M hMW HH.out.1).trans HM1.out
  have hO2 : ∀ q, Up O W W2 q → O q ∨ w.heap.size + 5 ≤ q := fun q hk => by
    rcases hk with e | e
    · exact .inl e
    · exact .inr (by have := HSz.out; omega)
  generalize Up O W W2 = O2 at hR2 hO2
  rw [Int.toNat_natCast] at hR2
  have HO2 := Lib.hid hO2
  obtain ⟨tb, b1, b2, b3, b4⟩ := boxes_at hbx2
  unfold obC nul at b3
  obtain ⟨x0, x1, x2, x3, x4, x5, x6, x7⟩ := cellsOb b3
  have xf := blk_free b3
  have HB3 := Lib.hid b3
  have HBx2 := Lib.hid hbx2
  have HM2 := Lib.hid hM2
  have HR2 := Lib.hid hR2
  clear tb b1 b2 b3 b4 hbx2 hM2 hR2 hF2 hO2 t0 t1 t2 t3 t4 t5 HT1 HBx1 HM1
  have hno : newOb ⟨7, [], List.replicate (k : Int).toNat nul, [], 0, 0⟩ (List.length ([] : List (Th × Lay))) = ⟨7, false, 0, 0, ⟨#[]⟩, 1, 0, k⟩ := by simp [newOb, Th.length]
  rw [hno]
  unfold Ob.val
  clear hno
  go_upto_region 16 with fail
  have hp := put8 HB3.out (.int .i64 7) (.bool false) (.int .i64 0) (.int .i64 0) (.string ⟨#[]⟩) (.int .i64 1) (.int .i64 0) (.int .i64 k)
  generalize hW3 : ((((((((W2.setCell ⟨w.heap.size + 1 + 1 + 1, 0, none⟩ (.int .i64 7)).setCell ⟨w.heap.size + 1 + 1 + 1, 1, none⟩ (.bool false)).setCell ⟨w.heap.size + 1 + 1 + 1, 2, none⟩ (.int .i64 0)).setCell ⟨w.heap.size + 1 + 1 + 1, 3, none⟩ (.int .i64 0)).setCell ⟨w.heap.size + 1 + 1 + 1, 4, none⟩ (.string ⟨#[]⟩)).setCell ⟨w.heap.size + 1 + 1 + 1, 5, none⟩ (.int .i64 1)).setCell ⟨w.heap.size + 1 + 1 + 1, 6, none⟩ (.int .i64 0)).setCell ⟨w.heap.size + 1 + 1 + 1, 7, none⟩ (.int .i64 k)) = W3 at hp ⊢
  clear hW3 x0 x1 x2 x3 x4 x5 x6 x7 xf HB3
  have hbx3 := boxes_o (o' := ⟨7, false, 0, 0, ⟨#[]⟩, 1, 0, k⟩) HBx2.out hp.blk hp.far hp.size hp.os hp.tape hp.output
  have hM3 := (hp.far M (by have := HH.out.2.2.1; omega)).trans HM2.out
  have HR3 := Lib.hid (Car7.put ⟨_, HR2.out⟩ HO2.out HH.out.2.2.2.2 (fun k h1 => hp.far k (by omega)) hp.size)
  clear hp HBx2 HM2 HR2
  have hb4 := below1 W3 (.cells (nvals k) 53)
  have hmk := make_vals k (by omega) W3
  have hsx : SrcX (W3.alloc (.cells (nvals k) 53)) (some ⟨W3.heap.size, 0, none⟩) (nvals k).toList := .inr ⟨_, rfl, fun j z hz => by
    rw [Addr.add_lit, Nat.zero_add, blk_cell (heap_alloc_new W3 _) j, ← hz]; simp⟩
  obtain ⟨tb, b1, b2, b3, b4⟩ := boxes_at hbx3
  unfold tgC at tb
  have u1 : W3.cell? ⟨w.heap.size, 1, none⟩ = some (.int .i64 k) := by rw [← HN.out]; exact blk_cell tb 1
  have hM3lt := (Array.getElem?_eq_some_iff.1 hM3).1
  have hT4 := mlist_at (c0 := k) (k := 0) (ps := []) ((hb4.block M hM3lt).trans hM3) (by omega) (by omega) (by omega) (World.ownsRow_nil _ _ _ _) (by omega) (nvals_len k) (nvals_one k) hsx (fun e => by cases e) (fun ad e => by cases e; show W3.heap.size ≠ M; omega) (by omega)
  have HT4 := Lib.hid hT4
  have HBx4 := Lib.hid (hbx3.below hb4)
  have HS4 := Lib.hid (show w.heap.size + 5 ≤ (W3.alloc (.cells (nvals k) 53)).heap.size by have := (Array.getElem?_eq_some_iff.1 b4).1; have := hb4.size; omega)
  have HR4 := Lib.hid (show Car7 O2 s ([] ++ [(⟨7, [], List.replicate k nul, [], 0, 0⟩, l)]) (W3.alloc (.cells (nvals k) 53)) from by obtain ⟨fr, hr⟩ := HR3.out; exact ⟨fr, hr.below hb4⟩)
  clear hT4 hb4 hM3 hbx3 HR3 tb b1 b2 b3 b4 hsx
  go_wp2_with fail
  refine HT4.out.mono ?_; rintro e W5 hP
  rcases hP with ⟨hne, _⟩ | ⟨_, A, B, c, rfl, hTW⟩
  · refine absurd ?_ hne
    unfold tkE
    rw [if_neg (by omega), if_neg (by omega), if_neg (by omega)]
  have hF5 : Frm (fun q => q = M) (W3.alloc (.cells (nvals k) 53)) W5 := hTW.frm.mono (fun q _ hq => by rcases hq with e | e; exact e; cases e)
  have hbx5 := HBx4.out.frm (hF5.mono (fun k _ hk => Or.inr hk))
  have hR5 : Car7 O2 s ([] ++ [(⟨7, [], List.replicate k nul, [], 0, 0⟩, l)]) W5 := by
    obtain ⟨fr, hr⟩ := HR4.out
    exact ⟨fr, hr.same hF5.size (fun q hq hO => hF5.block q hq (fun e => by
      rcases HO2.out q hO with e1 | e1
      · rw [e] at e1; exact HH.out.1 e1
      · have := HH.out.2.2.1; omega))⟩
  obtain ⟨tb, b1, b2, b3, b4⟩ := boxes_at hbx5
  unfold tgC at tb
  have u0 : W5.cell? ⟨w.heap.size, 0, none⟩ = some (.int .i64 7) := by rw [← HK.out]; exact blk_cell tb 0
  have u2 : W5.cell? ⟨w.heap.size, 2, none⟩ = some (.int .i64 t.acc) := blk_cell tb 2
  have u5 : W5.cell? ⟨w.heap.size, 5, none⟩ = some (.bool t.exec) := blk_cell tb 5
  unfold vlC nulV at b4
  obtain ⟨y0, y1, y2, y3, y4, y5, y6, y7, y8, y9, yf⟩ := cells10 b4
  have HB4 := Lib.hid b4
  have HBx5 := Lib.hid hbx5
  have HF5 := Lib.hid hR5
  clear tb b1 b2 b3 b4 hbx5 hR5 hTW hF5 hmk u1 HT4 HBx4 HR4
  unfold arrV Vl.val
  go_upto_region 25 with fail
  have hp := put10 HB4.out (.int .i64 7) (.bool false) (.int .i64 0) (.int .i64 0) (.string ⟨#[]⟩) (.pointer none) (.pointer (some ⟨A, 0, none⟩)) (.pointer none) (.int .i64 0) (.int .i64 k)
  generalize hW6 : ((((((((((W5.setCell ⟨w.heap.size + 1 + 1 + 1 + 1, 0, none⟩ (.int .i64 7)).setCell ⟨w.heap.size + 1 + 1 + 1 + 1, 1, none⟩ (.bool false)).setCell ⟨w.heap.size + 1 + 1 + 1 + 1, 2, none⟩ (.int .i64 0)).setCell ⟨w.heap.size + 1 + 1 + 1 + 1, 3, none⟩ (.int .i64 0)).setCell ⟨w.heap.size + 1 + 1 + 1 + 1, 4, none⟩ (.string ⟨#[]⟩)).setCell ⟨w.heap.size + 1 + 1 + 1 + 1, 5, none⟩ (.pointer none)).setCell ⟨w.heap.size + 1 + 1 + 1 + 1, 6, none⟩ (.pointer (some ⟨A, 0, none⟩))).setCell ⟨w.heap.size + 1 + 1 + 1 + 1, 7, none⟩ (.pointer none)).setCell ⟨w.heap.size + 1 + 1 + 1 + 1, 8, none⟩ (.int .i64 0)).setCell ⟨w.heap.size + 1 + 1 + 1 + 1, 9, none⟩ (.int .i64 k)) = W6 at hp ⊢
  have hbx := boxes_v (v' := ⟨7, false, 0, 0, ⟨#[]⟩, .pointer none, .pointer (some ⟨A, 0, none⟩), .pointer none, 0, k⟩) HBx5.out hp.blk hp.far hp.size hp.os hp.tape hp.output
  have HF := Lib.hid (Car7.put HF5.out HO2.out HH.out.2.2.2.2 (fun k h1 => hp.far k (by omega)) hp.size)
  clear hp hW6 u0 u2 u5 y0 y1 y2 y3 y4 y5 y6 y7 y8 y9 yf HB4 HBx5 HF5
  obtain ⟨tb, b1, b2, b3, b4⟩ := boxes_at hbx
  unfold tgC at tb
  have u0 : W6.cell? ⟨w.heap.size, 0, none⟩ = some (.int .i64 7) := by rw [← HK.out]; exact blk_cell tb 0
  have u2 : W6.cell? ⟨w.heap.size, 2, none⟩ = some (.int .i64 t.acc) := blk_cell tb 2
  have u5 : W6.cell? ⟨w.heap.size, 5, none⟩ = some (.bool t.exec) := blk_cell tb 5
  unfold obC nul at b1
  unfold obC at b3
  unfold vlC nulV at b2
  unfold vlC at b4
  obtain ⟨x0, x1, x2, x3, x4, x5, x6, x7⟩ := cellsOb b3
  have xf := blk_free b3
  obtain ⟨y0, y1, y2, y3, y4, y5, y6, y7, y8, y9, yf⟩ := cells10 b4
  have HB3 := Lib.hid b3
  have HB4 := Lib.hid b4
  have HB1 := Lib.hid b1
  have HB2 := Lib.hid b2
  have HBX := Lib.hid hbx
  clear tb b1 b2 b3 b4 hbx
  go_upto_region 26 with fail
  go_region
  go_upto_region 27 with fail
  generalize hWx : ((W6.setCell ⟨w.heap.size + 1 + 1 + 1, 2, none⟩ (.int .i64 t.acc)).setCell ⟨w.heap.size + 1 + 1 + 1 + 1, 2, none⟩ (.int .i64 t.acc)).drew = Wa at *
  have hA : Bx (OM O M) w (boxes w t (obC nul) (vlC nulV) ⟨7, false, t.acc, 0, ⟨#[]⟩, 1, 0, k⟩ ⟨7, false, 0, 0, ⟨#[]⟩, .pointer none, .pointer (some ⟨A, 0, none⟩), .pointer none, 0, k⟩) (W6.setCell ⟨w.heap.size + 1 + 1 + 1, 2, none⟩ (.int .i64 t.acc)) := boxes_o (o' := ⟨7, false, t.acc, 0, ⟨#[]⟩, 1, 0, k⟩) HBX.out (blk_set HB3.out 2 (.int .i64 t.acc)) (fun k hk => blk_far hk _) (setC_size _ _ _) rfl rfl rfl
  have hbx : Bx (OM O M) w (boxes w t (obC nul) (vlC nulV) ⟨7, false, t.acc, 0, ⟨#[]⟩, 1, 0, k⟩ ⟨7, false, t.acc, 0, ⟨#[]⟩, .pointer none, .pointer (some ⟨A, 0, none⟩), .pointer none, 0, k⟩) Wa := by
    rw [← hWx]
    exact (boxes_v (v' := ⟨7, false, t.acc, 0, ⟨#[]⟩, .pointer none, .pointer (some ⟨A, 0, none⟩), .pointer none, 0, k⟩) hA (blk_set ((blk_far (by omega) _).trans HB4.out) 2 (.int .i64 t.acc)) (fun k hk => blk_far hk _) (setC_size _ _ _) rfl rfl rfl).drews 1
  have hfar : ∀ k, (k < w.heap.size ∨ w.heap.size + 5 ≤ k) → Wa.heap[k]? = W6.heap[k]? := fun k h1 => by
    rw [← hWx]
    exact (blk_far (by omega) _).trans (blk_far (by omega) _)
  have hsz : Wa.heap.size = W6.heap.size := by
    rw [← hWx]
    show ((_ : World).setCell _ _).heap.size = _
    rw [setC_size, setC_size]
  clear hWx hA
  clear u0 u2 u5 x0 x1 x2 x3 x4 x5 x6 x7 xf y0 y1 y2 y3 y4 y5 y6 y7 y8 y9 yf HB3 HB4 HB1 HB2
  have HC := Lib.hid (Car7.put HF.out HO2.out HH.out.2.2.2.2 hfar hsz)
  clear HF hfar hsz HBX
  have HF := Lib.hid HC.out
  clear HC
  obtain ⟨tb, b1, b2, b3, b4⟩ := boxes_at hbx
  unfold tgC at tb
  have u0 : Wa.cell? ⟨w.heap.size, 0, none⟩ = some (.int .i64 7) := by rw [← HK.out]; exact blk_cell tb 0
  have u2 : Wa.cell? ⟨w.heap.size, 2, none⟩ = some (.int .i64 t.acc) := blk_cell tb 2
  have u5 : Wa.cell? ⟨w.heap.size, 5, none⟩ = some (.bool t.exec) := blk_cell tb 5
  unfold obC nul at b1
  unfold obC at b3
  unfold vlC nulV at b2
  unfold vlC at b4
  obtain ⟨x0, x1, x2, x3, x4, x5, x6, x7⟩ := cellsOb b3
  have xf := blk_free b3
  obtain ⟨y0, y1, y2, y3, y4, y5, y6, y7, y8, y9, yf⟩ := cells10 b4
  have HB3 := Lib.hid b3
  have HB4 := Lib.hid b4
  have HB1 := Lib.hid b1
  have HB2 := Lib.hid b2
  have HBX := Lib.hid hbx
  clear tb b1 b2 b3 b4 hbx
  go_region
  go_upto_region 28 with fail
  generalize hWx : ((Wa.setCell ⟨w.heap.size + 1 + 1 + 1, 1, none⟩ (.bool t.exec)).setCell ⟨w.heap.size + 1 + 1 + 1 + 1, 1, none⟩ (.bool t.exec)).drew = We at *
  have hA : Bx (OM O M) w (boxes w t (obC nul) (vlC nulV) ⟨7, t.exec, t.acc, 0, ⟨#[]⟩, 1, 0, k⟩ ⟨7, false, t.acc, 0, ⟨#[]⟩, .pointer none, .pointer (some ⟨A, 0, none⟩), .pointer none, 0, k⟩) (Wa.setCell ⟨w.heap.size + 1 + 1 + 1, 1, none⟩ (.bool t.exec)) := boxes_o (o' := ⟨7, t.exec, t.acc, 0, ⟨#[]⟩, 1, 0, k⟩) HBX.out (blk_set HB3.out 1 (.bool t.exec)) (fun k hk => blk_far hk _) (setC_size _ _ _) rfl rfl rfl
  have hbx : Bx (OM O M) w (boxes w t (obC nul) (vlC nulV) ⟨7, t.exec, t.acc, 0, ⟨#[]⟩, 1, 0, k⟩ ⟨7, t.exec, t.acc, 0, ⟨#[]⟩, .pointer none, .pointer (some ⟨A, 0, none⟩), .pointer none, 0, k⟩) We := by
    rw [← hWx]
    exact (boxes_v (v' := ⟨7, t.exec, t.acc, 0, ⟨#[]⟩, .pointer none, .pointer (some ⟨A, 0, none⟩), .pointer none, 0, k⟩) hA (blk_set ((blk_far (by omega) _).trans HB4.out) 1 (.bool t.exec)) (fun k hk => blk_far hk _) (setC_size _ _ _) rfl rfl rfl).drews 1
  have hfar : ∀ k, (k < w.heap.size ∨ w.heap.size + 5 ≤ k) → We.heap[k]? = Wa.heap[k]? := fun k h1 => by
    rw [← hWx]
    exact (blk_far (by omega) _).trans (blk_far (by omega) _)
  have hsz : We.heap.size = Wa.heap.size := by
    rw [← hWx]
    show ((_ : World).setCell _ _).heap.size = _
    rw [setC_size, setC_size]
  clear hWx hA
  clear u0 u2 u5 x0 x1 x2 x3 x4 x5 x6 x7 xf y0 y1 y2 y3 y4 y5 y6 y7 y8 y9 yf HB3 HB4 HB1 HB2
  have HC := Lib.hid (Car7.put HF.out HO2.out HH.out.2.2.2.2 hfar hsz)
  clear HF hfar hsz HBX
  have HF := Lib.hid HC.out
  clear HC
  obtain ⟨tb, b1, b2, b3, b4⟩ := boxes_at hbx
  unfold tgC at tb
  have u0 : We.cell? ⟨w.heap.size, 0, none⟩ = some (.int .i64 7) := by rw [← HK.out]; exact blk_cell tb 0
  have u2 : We.cell? ⟨w.heap.size, 2, none⟩ = some (.int .i64 t.acc) := blk_cell tb 2
  have u5 : We.cell? ⟨w.heap.size, 5, none⟩ = some (.bool t.exec) := blk_cell tb 5
  unfold obC nul at b1
  unfold obC at b3
  unfold vlC nulV at b2
  unfold vlC at b4
  obtain ⟨x0, x1, x2, x3, x4, x5, x6, x7⟩ := cellsOb b3
  have xf := blk_free b3
  obtain ⟨y0, y1, y2, y3, y4, y5, y6, y7, y8, y9, yf⟩ := cells10 b4
  have HB3 := Lib.hid b3
  have HB4 := Lib.hid b4
  have HB1 := Lib.hid b1
  have HB2 := Lib.hid b2
  have HBX := Lib.hid hbx
  clear tb b1 b2 b3 b4 hbx
  have sI := And.intro x0 (And.intro x1 (And.intro x2 (And.intro x3 (And.intro x4 (And.intro x5 (And.intro x6 (And.intro x7 (And.intro y0 (And.intro y1 (And.intro y2 (And.intro y3 (And.intro y4 (And.intro y5 (And.intro y6 (And.intro y7 (And.intro y8 y9))))))))))))))))
  obtain ⟨p0, p1, p2, p3, p4, p5, p6, p7⟩ := cellsOb HB1.out
  have pf := blk_free HB1.out
  obtain ⟨q0, q1, q2, q3, q4, q5, q6, q7, q8, q9, qf⟩ := cells10 HB2.out
  have sD : We.drew.cell? ⟨w.heap.size + 1 + 1 + 1, 0, none⟩ = some (.int .i64 7) ∧ We.drew.cell? ⟨w.heap.size + 1 + 1 + 1, 1, none⟩ = some (.bool t.exec) ∧ We.drew.cell? ⟨w.heap.size + 1 + 1 + 1, 2, none⟩ = some (.int .i64 t.acc) ∧ We.drew.cell? ⟨w.heap.size + 1 + 1 + 1, 3, none⟩ = some (.int .i64 0) ∧ We.drew.cell? ⟨w.heap.size + 1 + 1 + 1, 4, none⟩ = some (.string ⟨#[]⟩) ∧ We.drew.cell? ⟨w.heap.size + 1 + 1 + 1, 5, none⟩ = some (.int .i64 1) ∧ We.drew.cell? ⟨w.heap.size + 1 + 1 + 1, 6, none⟩ = some (.int .i64 0) ∧ We.drew.cell? ⟨w.heap.size + 1 + 1 + 1, 7, none⟩ = some (.int .i64 k) ∧ We.drew.cell? ⟨w.heap.size + 1 + 1 + 1 + 1, 0, none⟩ = some (.int .i64 7) ∧ We.drew.cell? ⟨w.heap.size + 1 + 1 + 1 + 1, 1, none⟩ = some (.bool t.exec) ∧ We.drew.cell? ⟨w.heap.size + 1 + 1 + 1 + 1, 2, none⟩ = some (.int .i64 t.acc) ∧ We.drew.cell? ⟨w.heap.size + 1 + 1 + 1 + 1, 3, none⟩ = some (.int .i64 0) ∧ We.drew.cell? ⟨w.heap.size + 1 + 1 + 1 + 1, 4, none⟩ = some (.string ⟨#[]⟩) ∧ We.drew.cell? ⟨w.heap.size + 1 + 1 + 1 + 1, 5, none⟩ = some (.pointer none) ∧ We.drew.cell? ⟨w.heap.size + 1 + 1 + 1 + 1, 6, none⟩ = some (.pointer (some ⟨A, 0, none⟩)) ∧ We.drew.cell? ⟨w.heap.size + 1 + 1 + 1 + 1, 7, none⟩ = some (.pointer none) ∧ We.drew.cell? ⟨w.heap.size + 1 + 1 + 1 + 1, 8, none⟩ = some (.int .i64 0) ∧ We.drew.cell? ⟨w.heap.size + 1 + 1 + 1 + 1, 9, none⟩ = some (.int .i64 k) := sI
  go_region_held3 (fun w' => w'.cell? ⟨w.heap.size + 1 + 1 + 1, 0, none⟩ = some (.int .i64 7) ∧ w'.cell? ⟨w.heap.size + 1 + 1 + 1, 1, none⟩ = some (.bool t.exec) ∧ w'.cell? ⟨w.heap.size + 1 + 1 + 1, 2, none⟩ = some (.int .i64 t.acc) ∧ w'.cell? ⟨w.heap.size + 1 + 1 + 1, 3, none⟩ = some (.int .i64 0) ∧ w'.cell? ⟨w.heap.size + 1 + 1 + 1, 4, none⟩ = some (.string ⟨#[]⟩) ∧ w'.cell? ⟨w.heap.size + 1 + 1 + 1, 5, none⟩ = some (.int .i64 1) ∧ w'.cell? ⟨w.heap.size + 1 + 1 + 1, 6, none⟩ = some (.int .i64 0) ∧ w'.cell? ⟨w.heap.size + 1 + 1 + 1, 7, none⟩ = some (.int .i64 k) ∧ w'.cell? ⟨w.heap.size + 1 + 1 + 1 + 1, 0, none⟩ = some (.int .i64 7) ∧ w'.cell? ⟨w.heap.size + 1 + 1 + 1 + 1, 1, none⟩ = some (.bool t.exec) ∧ w'.cell? ⟨w.heap.size + 1 + 1 + 1 + 1, 2, none⟩ = some (.int .i64 t.acc) ∧ w'.cell? ⟨w.heap.size + 1 + 1 + 1 + 1, 3, none⟩ = some (.int .i64 0) ∧ w'.cell? ⟨w.heap.size + 1 + 1 + 1 + 1, 4, none⟩ = some (.string ⟨#[]⟩) ∧ w'.cell? ⟨w.heap.size + 1 + 1 + 1 + 1, 5, none⟩ = some (.pointer none) ∧ w'.cell? ⟨w.heap.size + 1 + 1 + 1 + 1, 6, none⟩ = some (.pointer (some ⟨A, 0, none⟩)) ∧ w'.cell? ⟨w.heap.size + 1 + 1 + 1 + 1, 7, none⟩ = some (.pointer none) ∧ w'.cell? ⟨w.heap.size + 1 + 1 + 1 + 1, 8, none⟩ = some (.int .i64 0) ∧ w'.cell? ⟨w.heap.size + 1 + 1 + 1 + 1, 9, none⟩ = some (.int .i64 k)) (first | with_reducible exact sD | with_reducible exact sI | with_reducible exact keep18a sI | with_reducible exact keep18b sI | with_reducible exact keep18a sI | with_reducible exact keep18b sI | fail) (fail)
  go_wp2_with fail
  have hfin := (fin2 HB1.out HB2.out (by omega) (.int .i64 7) (.bool t.exec) (.int .i64 t.acc) (.int .i64 0) (.string ⟨#[]⟩) (.int .i64 1) (.int .i64 0) (.int .i64 k) (.int .i64 7) (.bool t.exec) (.int .i64 t.acc) (.int .i64 0) (.string ⟨#[]⟩) (.pointer none) (.pointer (some ⟨A, 0, none⟩)) (.pointer none) (.int .i64 0) (.int .i64 k)).drew 1
  have hfar : ∀ k, (k < w.heap.size ∨ w.heap.size + 5 ≤ k) → _ = We.heap[k]? := fun k h1 => hfin.far k (by omega) (by omega)
  refine bodyPost_ret (results_bld Tryz.results13 _ _ (w.heap.size + 1) (w.heap.size + 1 + 1) rfl rfl rfl hfin.b1 hfin.b2) rfl ⟨⟨7, t.exec, t.acc, 0, ⟨#[]⟩, 1, 0, k⟩, ⟨7, t.exec, t.acc, 0, ⟨#[]⟩, .pointer none, .pointer (some ⟨A, 0, none⟩), .pointer none, 0, k⟩, true, rfl, ⟨_, _, _, rfl, rfl, rfl⟩, hfin.frm HBX.out.1 (by omega) (by omega), fun _ => ?_⟩
  obtain ⟨fr, hr⟩ := Car7.put HF.out HO2.out HH.out.2.2.2.2 hfar hfin.size
  exact ⟨O2, fr, _, hr, fun k hk => (HO2.out k hk).imp id (fun e => by omega), HBd.out, Or.inr (Or.inl ⟨HK.out, by rw [HN.out]; omega, by rw [HN.out]; omega, by rw [HN.out], ⟨l, by rw [HN.out]; rfl⟩, rfl⟩)⟩
end Cn
end Go.Proofs.YtfilbfenpdaahaaGreatDoor
namespace Go.Proofs.YtfilbfenpdaahaaGreatDoor
open Go.RowKit
open St
open Col
open Mm
namespace Cn
/-- what is carried on: the store -/
def Car8 (O2 : Nat → Prop) (s : Nat) (G : List (Th × Lay)) (W : World) : Prop := ∃ fr, Rep O2 W s fr G
theorem Car8.put {O O2 : Nat → Prop} {w : World} {s : Nat} {G : List (Th × Lay)} {W W' : World} (h : Car8 O2 s G W) (hO2 : ∀ k, O2 k → O k ∨ w.heap.size + 5 ≤ k) (hO : ∀ k, O k → k < w.heap.size) (hf : ∀ k, (k < w.heap.size ∨ w.heap.size + 5 ≤ k) → W'.heap[k]? = W.heap[k]?) (hs : W'.heap.size = W.heap.size) : Car8 O2 s G W' := by
  obtain ⟨fr, hr⟩ := h
  exact ⟨fr, hr.same (by rw [hs]; exact Nat.le_refl _) (fun k _ hk => hf k (by rcases hO2 k hk with e | e; exact .inl (hO k e); exact .inr e))⟩
theorem boxes_frm {O O2 : Nat → Prop} {w W W' : World} {M : Nat} {t : Tg} {ro rv : Obj} {o : Ob} {v : Vl} (h : Bx (OM O M) w (boxes w t ro rv o v) W) (hF : Frm O2 W W') (hO2 : ∀ k, O2 k → O k ∨ w.heap.size + 5 ≤ k) (hO : ∀ k, O k → k < w.heap.size) : Bx (OM O M) w (boxes w t ro rv o v) W' := by
  refine ⟨⟨hF.os.trans h.1.os, hF.tape.trans h.1.tape, hF.output.trans h.1.output, Nat.le_trans h.1.size hF.size, fun k hk hk2 => (hF.block k (Nat.lt_of_lt_of_le hk h.1.size) (fun e => by rcases hO2 k e with e1 | e1; exact hk2 (.inl e1); omega)).trans (h.1.block k hk hk2)⟩, fun p hp => ?_⟩
  have h2 := h.2 p hp
  have hp2 : w.heap.size ≤ p.1 ∧ p.1 < w.heap.size + 5 := by
    simp only [boxes, List.mem_cons, List.mem_nil_iff, or_false] at hp
    rcases hp with rfl | rfl | rfl | rfl | rfl <;> simp only [] <;> omega
  refine ⟨h2.1, (hF.block p.1 (Array.getElem?_eq_some_iff.1 h2.2).1 (fun e => ?_)).trans h2.2⟩
  rcases hO2 p.1 e with e1 | e1
  · have := hO p.1 e1; omega
  · omega
theorem tld_dict (k : Nat) (l : Lay) : tld [(⟨8, [], [], [], k, 0⟩, l)] ⟨8, false, 0, 0, ⟨#[]⟩, 1, 0, 0⟩ 8 = some 0 := by simp [tld, Th.length, liesB]
set_option maxRecDepth 100000 in
set_option maxHeartbeats 1000000 in
theorem build_8 {O : Nat → Prop} {w : World} {s M : Nat} (h : Rep O w s 500 []) (hM : w.heap[M]? = some (memC 500 0 (.slice none 0 0) (.slice none 0 0) (.slice none 0 0) 0)) (hMO : ¬ O M) (t : Tg) (hbad : t.bad = false) (hk : t.kind = 8) (h0 : 0 ≤ t.n) (h20 : t.n ≤ 20) :
    Calls Tryz.prog 13 #[.pointer (some ⟨s, 0, none⟩), .pointer (some ⟨M, 0, none⟩), t.val] w (Bld O w s M t) := by
  have HBd := Lib.hid hbad
  obtain ⟨d1, d2, d3, d4, d5, d6⟩ := Tg.good hbad
  have hMlt : M < w.heap.size := (Array.getElem?_eq_some_iff.1 hM).1
  have hOM : ∀ k, OM O M k → k < w.heap.size := fun k hk => by rcases hk with e | e; exact h.olt k e; omega
  have hbx := five_bx (O := OM O M) t hOM
  have hb5 := five_below w t
  have hR5 := h.below hb5
  have hM5 := (hb5.block M hMlt).trans hM
  have HSz := Lib.hid (five_size w t)
  have HK := Lib.hid hk
  obtain ⟨k, hkn⟩ : ∃ k : Nat, t.n = k := ⟨t.n.toNat, by omega⟩
  have hk20 : k ≤ 20 := by omega
  have HN := Lib.hid hkn
  have g1 : decide ((k : Int) < 0) = false := decide_eq_false (by omega)
  have g2 : decide ((20 : Int) < (k : Int)) = false := decide_eq_false (by omega)
  have HAc := Lib.hid (And.intro (of_decide_eq_false d1) (of_decide_eq_false d2))
  clear hk h0 h20 hkn
  unfold Tg.val
  clear hbad
  go_enter Tryz.func13, Tryz.ntmps13
  go_upto_region 6 with fail
  change Code.wp _ _ _ _ (five w t)
  generalize hW : five w t = W at *
  have hMW : M < W.heap.size := by have := HSz.out; omega
  obtain ⟨tb, b1, b2, b3, b4⟩ := boxes_at hbx
  unfold tgC at tb
  have t0 : W.cell? ⟨w.heap.size, 0, none⟩ = some (.int .i64 t.kind) := blk_cell tb 0
  have t1 : W.cell? ⟨w.heap.size, 1, none⟩ = some (.int .i64 t.n) := blk_cell tb 1
  have t2 : W.cell? ⟨w.heap.size, 2, none⟩ = some (.int .i64 t.acc) := blk_cell tb 2
  have t3 : W.cell? ⟨w.heap.size, 3, none⟩ = some (.string t.name) := blk_cell tb 3
  have t4 : W.cell? ⟨w.heap.size, 4, none⟩ = some (.string t.text) := blk_cell tb 4
  have t5 : W.cell? ⟨w.heap.size, 5, none⟩ = some (.bool t.exec) := blk_cell tb 5
  clear hW
  rw [HK.out] at t0
  rw [HN.out] at t1
  clear tb b1 b2 b3 b4
  have hlt := h.olt
  have HT1 := Lib.hid (dict_at hR5 k)
  have HBx1 := Lib.hid hbx
  have HM1 := Lib.hid hM5
  have HH := Lib.hid (And.intro hMO (And.intro hOM (And.intro hMlt (And.intro hb5 hlt))))
  clear hbx hM5 hR5 hMO hOM hb5 hM h hlt
  go_wp2_with fail
  refine HT1.out.mono ?_; rintro e W2 hM
  rcases hM with ⟨hne, _⟩ | ⟨_, rfl, l, hR2, hF2⟩
  · exact absurd (by unfold clm mostI cellsI; simp; omega) hne
  have hbx2 := HBx1.out.frm (hF2.mono (fun k _ hk => Or.inl hk))
  have hM2 := (hF2.block M hMW HH.out.1).trans HM1.out
  have hO2 : ∀ q, Up O W W2 q → O q ∨ w.heap.size + 5 ≤ q := fun q hk => by
    rcases hk with e | e
    · exact .inl e
    · exact .inr (by have := HSz.out; omega)
  generalize Up O W W2 = O2 at hR2 hO2
  have HO2 := Lib.hid hO2
  obtain ⟨tb, b1, b2, b3, b4⟩ := boxes_at hbx2
  unfold obC nul at b3
  obtain ⟨x0, x1, x2, x3, x4, x5, x6, x7⟩ := cellsOb b3
  have xf := blk_free b3
  have HB3 := Lib.hid b3
  have HBx2 := Lib.hid hbx2
  have HM2 := Lib.hid hM2
  have HR2 := Lib.hid hR2
  clear tb b1 b2 b3 b4 hbx2 hM2 hR2 hF2 hO2 t0 t1 t2 t3 t4 t5 HT1 HBx1 HM1
  have hno : newOb ⟨8, [], [], [], (k : Int), 0⟩ (List.length ([] : List (Th × Lay))) = ⟨8, false, 0, 0, ⟨#[]⟩, 1, 0, 0⟩ := by simp [newOb, Th.length]
  rw [hno]
  unfold Ob.val
  clear hno
  go_upto_region 21 with fail
  have hp := put8 HB3.out (.int .i64 8) (.bool false) (.int .i64 0) (.int .i64 0) (.string ⟨#[]⟩) (.int .i64 1) (.int .i64 0) (.int .i64 0)
  generalize hW3 : ((((((((W2.setCell ⟨w.heap.size + 1 + 1 + 1, 0, none⟩ (.int .i64 8)).setCell ⟨w.heap.size + 1 + 1 + 1, 1, none⟩ (.bool false)).setCell ⟨w.heap.size + 1 + 1 + 1, 2, none⟩ (.int .i64 0)).setCell ⟨w.heap.size + 1 + 1 + 1, 3, none⟩ (.int .i64 0)).setCell ⟨w.heap.size + 1 + 1 + 1, 4, none⟩ (.string ⟨#[]⟩)).setCell ⟨w.heap.size + 1 + 1 + 1, 5, none⟩ (.int .i64 1)).setCell ⟨w.heap.size + 1 + 1 + 1, 6, none⟩ (.int .i64 0)).setCell ⟨w.heap.size + 1 + 1 + 1, 7, none⟩ (.int .i64 0)) = W3 at hp ⊢
  clear hW3 x0 x1 x2 x3 x4 x5 x6 x7 xf HB3
  have hbx3 := boxes_o (o' := ⟨8, false, 0, 0, ⟨#[]⟩, 1, 0, 0⟩) HBx2.out hp.blk hp.far hp.size hp.os hp.tape hp.output
  have hM3 := (hp.far M (by have := HH.out.2.2.1; omega)).trans HM2.out
  have HR3 := Lib.hid (Car8.put ⟨_, HR2.out⟩ HO2.out HH.out.2.2.2.2 (fun k h1 => hp.far k (by omega)) hp.size)
  clear hp HBx2 HM2 HR2
  obtain ⟨tb, b1, b2, b3, b4⟩ := boxes_at hbx3
  unfold tgC at tb
  have u1 : W3.cell? ⟨w.heap.size, 1, none⟩ = some (.int .i64 k) := by rw [← HN.out]; exact blk_cell tb 1
  have hM3lt := (Array.getElem?_eq_some_iff.1 hM3).1
  have hT4 := mdict_at (n := k) (k := 0) (ps := []) hM3 (by omega) (by omega) (by omega) (World.ownsRow_nil _ _ _ _) (by omega) (by omega)
  have HT4 := Lib.hid hT4
  have HBx4 := Lib.hid hbx3
  have HS4 := Lib.hid (show w.heap.size + 5 ≤ W3.heap.size by have := (Array.getElem?_eq_some_iff.1 b4).1; omega)
  have HR4 := HR3
  clear hT4 hM3 hbx3 HR3 tb b1 b2 b3 b4
  go_wp2_with fail
  refine HT4.out.mono ?_; rintro e W5 hP
  rcases hP with ⟨hne, _⟩ | ⟨_, D, rfl, hTW⟩
  · refine absurd ?_ hne
    unfold tkE
    rw [if_neg (by omega), if_neg (by omega), if_neg (by omega)]
  have hF5 : Frm (fun q => q = M) W3 W5 := hTW.frm.mono (fun q _ hq => by rcases hq with e | e; exact e; cases e)
  have hbx5 := HBx4.out.frm (hF5.mono (fun k _ hk => Or.inr hk))
  have hR5 : Car8 O2 s ([] ++ [(⟨8, [], [], [], (k : Int), 0⟩, l)]) W5 := by
    obtain ⟨fr, hr⟩ := HR4.out
    exact ⟨fr, hr.same hF5.size (fun q hq hO => hF5.block q hq (fun e => by
      rcases HO2.out q hO with e1 | e1
      · rw [e] at e1; exact HH.out.1 e1
      · have := HH.out.2.2.1; omega))⟩
  have hDlo : w.heap.size + 5 ≤ D := by have := hTW.d0; have := HS4.out; omega
  have hDno : ¬ O2 D := fun e => by
    obtain ⟨fr, hr⟩ := HR4.out
    have h1 := hr.olt D e
    have := hTW.d0
    omega
  have hD5 := hTW.dic
  obtain ⟨tb, b1, b2, b3, b4⟩ := boxes_at hbx5
  unfold vlC nulV at b4
  obtain ⟨y0, y1, y2, y3, y4, y5, y6, y7, y8, y9, yf⟩ := cells10 b4
  have HB4 := Lib.hid b4
  have HBx5 := Lib.hid hbx5
  have HF5 := Lib.hid hR5
  have HD := Lib.hid (And.intro hDlo (And.intro hDno hD5))
  clear tb b1 b2 b3 b4 hbx5 hR5 hTW hF5 u1 HT4 HBx4 HR4 hDlo hDno hD5
  unfold dicV Vl.val
  go_upto_region 22 with fail
  have hp := put10 HB4.out (.int .i64 8) (.bool false) (.int .i64 0) (.int .i64 0) (.string ⟨#[]⟩) (.pointer none) (.pointer none) (.pointer (some ⟨D, 0, none⟩)) (.int .i64 0) (.int .i64 0)
  generalize hW6 : ((((((((((W5.setCell ⟨w.heap.size + 1 + 1 + 1 + 1, 0, none⟩ (.int .i64 8)).setCell ⟨w.heap.size + 1 + 1 + 1 + 1, 1, none⟩ (.bool false)).setCell ⟨w.heap.size + 1 + 1 + 1 + 1, 2, none⟩ (.int .i64 0)).setCell ⟨w.heap.size + 1 + 1 + 1 + 1, 3, none⟩ (.int .i64 0)).setCell ⟨w.heap.size + 1 + 1 + 1 + 1, 4, none⟩ (.string ⟨#[]⟩)).setCell ⟨w.heap.size + 1 + 1 + 1 + 1, 5, none⟩ (.pointer none)).setCell ⟨w.heap.size + 1 + 1 + 1 + 1, 6, none⟩ (.pointer none)).setCell ⟨w.heap.size + 1 + 1 + 1 + 1, 7, none⟩ (.pointer (some ⟨D, 0, none⟩))).setCell ⟨w.heap.size + 1 + 1 + 1 + 1, 8, none⟩ (.int .i64 0)).setCell ⟨w.heap.size + 1 + 1 + 1 + 1, 9, none⟩ (.int .i64 0)) = W6 at hp ⊢
  have hbx6 := boxes_v (v' := ⟨8, false, 0, 0, ⟨#[]⟩, .pointer none, .pointer none, .pointer (some ⟨D, 0, none⟩), 0, 0⟩) HBx5.out hp.blk hp.far hp.size hp.os hp.tape hp.output
  have HR6 := Lib.hid (Car8.put HF5.out HO2.out HH.out.2.2.2.2 (fun k h1 => hp.far k (by omega)) hp.size)
  have hD6 := (hp.far D (by have := HD.out.1; omega)).trans HD.out.2.2
  clear hp hW6 y0 y1 y2 y3 y4 y5 y6 y7 y8 y9 yf HB4 HBx5 HF5
  obtain ⟨fr6, hR6⟩ := HR6.out
  have hL := lock_at hR6 ⟨8, false, 0, 0, ⟨#[]⟩, 1, 0, 0⟩ t.acc
  have hLE : lockE ([] ++ [(⟨8, [], [], [], (k : Int), 0⟩, l)]) ⟨8, false, 0, 0, ⟨#[]⟩, 1, 0, 0⟩ t.acc = 0 := by
    unfold lockE
    rw [List.nil_append, tld_dict, if_neg (by simp), if_pos (by have := HAc.out; omega)]
  have hLR : lockR ([] ++ [(⟨8, [], [], [], (k : Int), 0⟩, l)]) ⟨8, false, 0, 0, ⟨#[]⟩, 1, 0, 0⟩ t.acc = [(⟨8, [], [], [], (k : Int), t.acc⟩, l)] := by
    unfold lockR
    rw [List.nil_append, tld_dict]
    rfl
  rw [hLE, hLR] at hL
  obtain ⟨tb, b1, b2, b3, b4⟩ := boxes_at hbx6
  unfold tgC at tb
  have u2 : W6.cell? ⟨w.heap.size, 2, none⟩ = some (.int .i64 t.acc) := blk_cell tb 2
  unfold obC at b3
  obtain ⟨x0, x1, x2, x3, x4, x5, x6, x7⟩ := cellsOb b3
  have HL := Lib.hid hL
  have HBx6 := Lib.hid hbx6
  have HD6 := Lib.hid hD6
  unfold Ob.val at HL
  clear hL hLE hLR hbx6 hD6 hR6 HR6 tb b1 b2 b3 b4
  go_wp2_with fail
  refine HL.out.mono ?_; rintro e W7 ⟨rfl, hor⟩
  rcases hor with ⟨hne, _⟩ | ⟨_, hR7, hF7⟩
  · exact absurd rfl hne
  have hbx7 := boxes_frm HBx6.out hF7 HO2.out HH.out.2.2.2.2
  have hD7 := (hF7.block D (Array.getElem?_eq_some_iff.1 HD6.out).1 HD.out.2.1).trans HD6.out
  obtain ⟨tb, b1, b2, b3, b4⟩ := boxes_at hbx7
  unfold tgC at tb
  have u0 : W7.cell? ⟨w.heap.size, 0, none⟩ = some (.int .i64 8) := by rw [← HK.out]; exact blk_cell tb 0
  have v2 : W7.cell? ⟨w.heap.size, 2, none⟩ = some (.int .i64 t.acc) := blk_cell tb 2
  have v7 : W7.cell? ⟨w.heap.size + 1 + 1 + 1 + 1, 7, none⟩ = some (.pointer (some ⟨D, 0, none⟩)) := blk_cell b4 7
  have e3 : W7.cell? ⟨D, 3, none⟩ = some (.int .i64 0) := blk_cell hD7 3
  have ef := blk_free hD7
  have HBx7 := Lib.hid hbx7
  have HF7 := Lib.hid (show Car8 O2 s [(⟨8, [], [], [], (k : Int), t.acc⟩, l)] W7 from ⟨_, hR7⟩)
  have hneD : ¬ w.heap.size = D := by have := HD.out.1; omega
  clear tb b1 b2 b3 b4 hbx7 hR7 hF7 hD7 u2 x0 x1 x2 x3 x4 x5 x6 x7 HL HBx6
  go_upto_region 25 with fail
  generalize hW8 : W7.setCell ⟨D, 3, none⟩ (.int .i64 t.acc) = W8
  have hfar8 : ∀ q, q ≠ D → W8.heap[q]? = W7.heap[q]? := fun q hq => by rw [← hW8]; exact blk_far hq _
  have hsz8 : W8.heap.size = W7.heap.size := by rw [← hW8, setC_size]
  have hbx : Bx (OM O M) w (boxes w t (obC nul) (vlC nulV) ⟨8, false, 0, 0, ⟨#[]⟩, 1, 0, 0⟩ ⟨8, false, 0, 0, ⟨#[]⟩, .pointer none, .pointer none, .pointer (some ⟨D, 0, none⟩), 0, 0⟩) W8 := boxes_frm (O2 := fun q => q = D) (O := O) HBx7.out ⟨by rw [← hW8]; rfl, by rw [← hW8]; rfl, by rw [← hW8]; rfl, by rw [hsz8]; exact Nat.le_refl _, fun q _ hq => hfar8 q hq⟩ (fun q hq => .inr (by rw [hq]; exact HD.out.1)) HH.out.2.2.2.2
  have HF := Lib.hid (show Car8 O2 s [(⟨8, [], [], [], (k : Int), t.acc⟩, l)] W8 from by
    obtain ⟨fr, hr⟩ := HF7.out
    exact ⟨fr, hr.same (by rw [hsz8]; exact Nat.le_refl _) (fun q _ hO => hfar8 q (fun e => HD.out.2.1 (by rw [← e]; exact hO)))⟩)
  clear hW8 hfar8 hsz8 u0 v2 v7 e3 ef HBx7 HF7
  obtain ⟨tb, b1, b2, b3, b4⟩ := boxes_at hbx
  unfold tgC at tb
  have u0 : W8.cell? ⟨w.heap.size, 0, none⟩ = some (.int .i64 8) := by rw [← HK.out]; exact blk_cell tb 0
  have u2 : W8.cell? ⟨w.heap.size, 2, none⟩ = some (.int .i64 t.acc) := blk_cell tb 2
  have u5 : W8.cell? ⟨w.heap.size, 5, none⟩ = some (.bool t.exec) := blk_cell tb 5
  unfold obC nul at b1
  unfold obC at b3
  unfold vlC nulV at b2
  unfold vlC at b4
  obtain ⟨x0, x1, x2, x3, x4, x5, x6, x7⟩ := cellsOb b3
  have xf := blk_free b3
  obtain ⟨y0, y1, y2, y3, y4, y5, y6, y7, y8, y9, yf⟩ := cells10 b4
  have HB3 := Lib.hid b3
  have HB4 := Lib.hid b4
  have HB1 := Lib.hid b1
  have HB2 := Lib.hid b2
  have HBX := Lib.hid hbx
  clear tb b1 b2 b3 b4 hbx
  go_upto_region 27 with fail
  go_region
  go_upto_region 28 with fail
  generalize hWx : ((W8.setCell ⟨w.heap.size + 1 + 1 + 1, 1, none⟩ (.bool t.exec)).setCell ⟨w.heap.size + 1 + 1 + 1 + 1, 1, none⟩ (.bool t.exec)).drew = We at *
  have hA : Bx (OM O M) w (boxes w t (obC nul) (vlC nulV) ⟨8, t.exec, 0, 0, ⟨#[]⟩, 1, 0, 0⟩ ⟨8, false, 0, 0, ⟨#[]⟩, .pointer none, .pointer none, .pointer (some ⟨D, 0, none⟩), 0, 0⟩) (W8.setCell ⟨w.heap.size + 1 + 1 + 1, 1, none⟩ (.bool t.exec)) := boxes_o (o' := ⟨8, t.exec, 0, 0, ⟨#[]⟩, 1, 0, 0⟩) HBX.out (blk_set HB3.out 1 (.bool t.exec)) (fun k hk => blk_far hk _) (setC_size _ _ _) rfl rfl rfl
  have hbx : Bx (OM O M) w (boxes w t (obC nul) (vlC nulV) ⟨8, t.exec, 0, 0, ⟨#[]⟩, 1, 0, 0⟩ ⟨8, t.exec, 0, 0, ⟨#[]⟩, .pointer none, .pointer none, .pointer (some ⟨D, 0, none⟩), 0, 0⟩) We := by
    rw [← hWx]
    exact (boxes_v (v' := ⟨8, t.exec, 0, 0, ⟨#[]⟩, .pointer none, .pointer none, .pointer (some ⟨D, 0, none⟩), 0, 0⟩) hA (blk_set ((blk_far (by omega) _).trans HB4.out) 1 (.bool t.exec)) (fun k hk => blk_far hk _) (setC_size _ _ _) rfl rfl rfl).drews 1
  have hfar : ∀ k, (k < w.heap.size ∨ w.heap.size + 5 ≤ k) → We.heap[k]? = W8.heap[k]? := fun k h1 => by
    rw [← hWx]
    exact (blk_far (by omega) _).trans (blk_far (by omega) _)
  have hsz : We.heap.size = W8.heap.size := by
    rw [← hWx]
    show ((_ : World).setCell _ _).heap.size = _
    rw [setC_size, setC_size]
  clear hWx hA
  clear u0 u2 u5 x0 x1 x2 x3 x4 x5 x6 x7 xf y0 y1 y2 y3 y4 y5 y6 y7 y8 y9 yf HB3 HB4 HB1 HB2
  have HC := Lib.hid (Car8.put HF.out HO2.out HH.out.2.2.2.2 hfar hsz)
  clear HF hfar hsz HBX
  have HF := Lib.hid HC.out
  clear HC
  obtain ⟨tb, b1, b2, b3, b4⟩ := boxes_at hbx
  unfold tgC at tb
  have u0 : We.cell? ⟨w.heap.size, 0, none⟩ = some (.int .i64 8) := by rw [← HK.out]; exact blk_cell tb 0
  have u2 : We.cell? ⟨w.heap.size, 2, none⟩ = some (.int .i64 t.acc) := blk_cell tb 2
  have u5 : We.cell? ⟨w.heap.size, 5, none⟩ = some (.bool t.exec) := blk_cell tb 5
  unfold obC nul at b1
  unfold obC at b3
  unfold vlC nulV at b2
  unfold vlC at b4
  obtain ⟨x0, x1, x2, x3, x4, x5, x6, x7⟩ := cellsOb b3
  have xf := blk_free b3
  obtain ⟨y0, y1, y2, y3, y4, y5, y6, y7, y8, y9, yf⟩ := cells10 b4
  have HB3 := Lib.hid b3
  have HB4 := Lib.hid b4
  have HB1 := Lib.hid b1
  have HB2 := Lib.hid b2
  have HBX := Lib.hid hbx
  clear tb b1 b2 b3 b4 hbx
  have sI := And.intro x0 (And.intro x1 (And.intro x2 (And.intro x3 (And.intro x4 (And.intro x5 (And.intro x6 (And.intro x7 (And.intro y0 (And.intro y1 (And.intro y2 (And.intro y3 (And.intro y4 (And.intro y5 (And.intro y6 (And.intro y7 (And.intro y8 y9))))))))))))))))
  obtain ⟨p0, p1, p2, p3, p4, p5, p6, p7⟩ := cellsOb HB1.out
  have pf := blk_free HB1.out
  obtain ⟨q0, q1, q2, q3, q4, q5, q6, q7, q8, q9, qf⟩ := cells10 HB2.out
  have sD : We.drew.cell? ⟨w.heap.size + 1 + 1 + 1, 0, none⟩ = some (.int .i64 8) ∧ We.drew.cell? ⟨w.heap.size + 1 + 1 + 1, 1, none⟩ = some (.bool t.exec) ∧ We.drew.cell? ⟨w.heap.size + 1 + 1 + 1, 2, none⟩ = some (.int .i64 0) ∧ We.drew.cell? ⟨w.heap.size + 1 + 1 + 1, 3, none⟩ = some (.int .i64 0) ∧ We.drew.cell? ⟨w.heap.size + 1 + 1 + 1, 4, none⟩ = some (.string ⟨#[]⟩) ∧ We.drew.cell? ⟨w.heap.size + 1 + 1 + 1, 5, none⟩ = some (.int .i64 1) ∧ We.drew.cell? ⟨w.heap.size + 1 + 1 + 1, 6, none⟩ = some (.int .i64 0) ∧ We.drew.cell? ⟨w.heap.size + 1 + 1 + 1, 7, none⟩ = some (.int .i64 0) ∧ We.drew.cell? ⟨w.heap.size + 1 + 1 + 1 + 1, 0, none⟩ = some (.int .i64 8) ∧ We.drew.cell? ⟨w.heap.size + 1 + 1 + 1 + 1, 1, none⟩ = some (.bool t.exec) ∧ We.drew.cell? ⟨w.heap.size + 1 + 1 + 1 + 1, 2, none⟩ = some (.int .i64 0) ∧ We.drew.cell? ⟨w.heap.size + 1 + 1 + 1 + 1, 3, none⟩ = some (.int .i64 0) ∧ We.drew.cell? ⟨w.heap.size + 1 + 1 + 1 + 1, 4, none⟩ = some (.string ⟨#[]⟩) ∧ We.drew.cell? ⟨w.heap.size + 1 + 1 + 1 + 1, 5, none⟩ = some (.pointer none) ∧ We.drew.cell? ⟨w.heap.size + 1 + 1 + 1 + 1, 6, none⟩ = some (.pointer none) ∧ We.drew.cell? ⟨w.heap.size + 1 + 1 + 1 + 1, 7, none⟩ = some (.pointer (some ⟨D, 0, none⟩)) ∧ We.drew.cell? ⟨w.heap.size + 1 + 1 + 1 + 1, 8, none⟩ = some (.int .i64 0) ∧ We.drew.cell? ⟨w.heap.size + 1 + 1 + 1 + 1, 9, none⟩ = some (.int .i64 0) := sI
  go_region_held3 (fun w' => w'.cell? ⟨w.heap.size + 1 + 1 + 1, 0, none⟩ = some (.int .i64 8) ∧ w'.cell? ⟨w.heap.size + 1 + 1 + 1, 1, none⟩ = some (.bool t.exec) ∧ w'.cell? ⟨w.heap.size + 1 + 1 + 1, 2, none⟩ = some (.int .i64 0) ∧ w'.cell? ⟨w.heap.size + 1 + 1 + 1, 3, none⟩ = some (.int .i64 0) ∧ w'.cell? ⟨w.heap.size + 1 + 1 + 1, 4, none⟩ = some (.string ⟨#[]⟩) ∧ w'.cell? ⟨w.heap.size + 1 + 1 + 1, 5, none⟩ = some (.int .i64 1) ∧ w'.cell? ⟨w.heap.size + 1 + 1 + 1, 6, none⟩ = some (.int .i64 0) ∧ w'.cell? ⟨w.heap.size + 1 + 1 + 1, 7, none⟩ = some (.int .i64 0) ∧ w'.cell? ⟨w.heap.size + 1 + 1 + 1 + 1, 0, none⟩ = some (.int .i64 8) ∧ w'.cell? ⟨w.heap.size + 1 + 1 + 1 + 1, 1, none⟩ = some (.bool t.exec) ∧ w'.cell? ⟨w.heap.size + 1 + 1 + 1 + 1, 2, none⟩ = some (.int .i64 0) ∧ w'.cell? ⟨w.heap.size + 1 + 1 + 1 + 1, 3, none⟩ = some (.int .i64 0) ∧ w'.cell? ⟨w.heap.size + 1 + 1 + 1 + 1, 4, none⟩ = some (.string ⟨#[]⟩) ∧ w'.cell? ⟨w.heap.size + 1 + 1 + 1 + 1, 5, none⟩ = some (.pointer none) ∧ w'.cell? ⟨w.heap.size + 1 + 1 + 1 + 1, 6, none⟩ = some (.pointer none) ∧ w'.cell? ⟨w.heap.size + 1 + 1 + 1 + 1, 7, none⟩ = some (.pointer (some ⟨D, 0, none⟩)) ∧ w'.cell? ⟨w.heap.size + 1 + 1 + 1 + 1, 8, none⟩ = some (.int .i64 0) ∧ w'.cell? ⟨w.heap.size + 1 + 1 + 1 + 1, 9, none⟩ = some (.int .i64 0)) (first | with_reducible exact sD | with_reducible exact sI | with_reducible exact keep18a sI | with_reducible exact keep18b sI | with_reducible exact keep18a sI | with_reducible exact keep18b sI | fail) (fail)
  go_wp2_with fail
  have hfin := (fin2 HB1.out HB2.out (by omega) (.int .i64 8) (.bool t.exec) (.int .i64 0) (.int .i64 0) (.string ⟨#[]⟩) (.int .i64 1) (.int .i64 0) (.int .i64 0) (.int .i64 8) (.bool t.exec) (.int .i64 0) (.int .i64 0) (.string ⟨#[]⟩) (.pointer none) (.pointer none) (.pointer (some ⟨D, 0, none⟩)) (.int .i64 0) (.int .i64 0)).drew 1
  have hfar : ∀ k, (k < w.heap.size ∨ w.heap.size + 5 ≤ k) → _ = We.heap[k]? := fun k h1 => hfin.far k (by omega) (by omega)
  refine bodyPost_ret (results_bld Tryz.results13 _ _ (w.heap.size + 1) (w.heap.size + 1 + 1) rfl rfl rfl hfin.b1 hfin.b2) rfl ⟨⟨8, t.exec, 0, 0, ⟨#[]⟩, 1, 0, 0⟩, ⟨8, t.exec, 0, 0, ⟨#[]⟩, .pointer none, .pointer none, .pointer (some ⟨D, 0, none⟩), 0, 0⟩, true, rfl, ⟨_, _, _, rfl, rfl, rfl⟩, hfin.frm HBX.out.1 (by omega) (by omega), fun _ => ?_⟩
  obtain ⟨fr, hr⟩ := Car8.put HF.out HO2.out HH.out.2.2.2.2 hfar hfin.size
  exact ⟨O2, fr, _, hr, fun k hk => (HO2.out k hk).imp id (fun e => by omega), HBd.out, Or.inr (Or.inr (Or.inl ⟨HK.out, by rw [HN.out]; omega, by rw [HN.out]; omega, rfl, ⟨l, by rw [HN.out]⟩, rfl⟩))⟩
end Cn
end Go.Proofs.YtfilbfenpdaahaaGreatDoor
