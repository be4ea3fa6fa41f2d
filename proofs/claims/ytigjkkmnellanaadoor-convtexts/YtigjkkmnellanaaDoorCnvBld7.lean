/-
  A thing of one kind that is made in both: law10.build, by a contract.
-/
import Derived.Test.YtigjkkmnellanaaDoorCnvBuild
namespace Go.Proofs.YtigjkkmnellanaaDoor
open Go.RowKit
open St
open Col
open Mm
namespace Cn
/-- what is carried on: the store -/
def Car7 (O2 : Nat → Prop) (s : Nat) (G : List (Th × Lay)) (W : World) : Prop := ∃ fr, Rep O2 W s fr G
theorem Car7.put {O O2 : Nat → Prop} {w : World} {s : Nat} {G : List (Th × Lay)} {W W' : World} (h : Car7 O2 s G W) (hO2 : ∀ k, O2 k → O k ∨ w.heap.size + 5 ≤ k) (hO : ∀ k, O k → k < w.heap.size) (hf : ∀ k, (k < w.heap.size ∨ w.heap.size + 5 ≤ k) → W'.heap[k]? = W.heap[k]?) (hs : W'.heap.size = W.heap.size) : Car7 O2 s G W' := by
  obtain ⟨fr, hr⟩ := h
  exact ⟨fr, hr.same (by rw [hs]; exact Nat.le_refl _) (fun k _ hk => hf k (by rcases hO2 k hk with e | e; exact .inl (hO k e); exact .inr e))⟩
def nvals (n : Nat) : Array Value := madeCells zeroVl (n * 10)
theorem nvals_list (n : Nat) : (nvals n).toList = (List.replicate n zeroVl.toList).flatten := by
  unfold nvals
  have e := made_list zeroVl.toList 10 rfl (by decide) n
  simpa using e
theorem nvals_len (n : Nat) : (nvals n).toList.length = n * 10 := by
  rw [nvals_list]
  induction n with
  | zero => rfl
  | succ n ih => rw [List.replicate_succ, List.flatten_cons, List.length_append, ih]; simp [zeroVl]; omega
theorem nvals_one (n : Nat) : ∀ u ∈ (nvals n).toList, u.oneCell' = true := by
  rw [nvals_list]
  intro u hu
  obtain ⟨l, hl, hu⟩ := List.mem_flatten.1 hu
  obtain ⟨_, rfl⟩ := List.mem_replicate.1 hl
  simp [zeroVl] at hu
  rcases hu with rfl | rfl | rfl | rfl | rfl | rfl <;> rfl
theorem make_vals (n : Nat) (hn : n ≤ 65535) (w : World) : (Instr.makeSlice 59 (.int .i64 n) (.int .i64 n)).run Tryd.prog w = .ok (.slice (some ⟨w.heap.size, 0, none⟩) n n) (w.alloc (.cells (nvals n) 40)) := by
  obtain ⟨i0, hi, hz0, hz1, hz2⟩ := info_parts val_info
  have h := run_make (P := Tryd.prog) w 59 40 i0 _ Tryd.underlying59 hi hz0 .i64 .i64 n n (by omega) (Int.le_refl _) (by rw [hz2]; omega) (by omega)
  rw [hz1] at h
  simpa [nvals, Value.cells] using h
set_option maxRecDepth 100000 in
set_option maxHeartbeats 1000000 in
theorem build_7 {O : Nat → Prop} {w : World} {s M : Nat} (h : Rep O w s 500 []) (hM : w.heap[M]? = some (memC 500 0 (.slice none 0 0) (.slice none 0 0) (.slice none 0 0) 0)) (hMO : ¬ O M) (t : Tg) (hbad : t.bad = false) (hk : t.kind = 7) (h0 : 0 ≤ t.n) (h20 : t.n ≤ 20) :
    Calls Tryd.prog 5 #[.pointer (some ⟨s, 0, none⟩), .pointer (some ⟨M, 0, none⟩), t.val] w (Bld O w s M t) := by
  have HBd := Lib.hid hbad
  obtain ⟨d1, d2, d3, d4, d5, d6⟩ := Tg.good hbad
  have hMlt : M < w.heap.size := (Array.getElem?_eq_some_iff.1 hM).1
  have hOM : ∀ k, OM O M k → k < w.heap.size := fun k hk => by rcases hk with e | e; exact h.olt k e; omega
  have hbx := five_bx (O := OM O M) t hOM
  have hb5 := five_below w t
  have hR5 := h.below hb5
  have hM5 := (hb5.block M hMlt).trans hM
  have HSz := Lib.hid (five_size w t)
  have HK := Lib.hid hk
  obtain ⟨k, hkn⟩ : ∃ k : Nat, t.n = k := ⟨t.n.toNat, by omega⟩
  have hk20 : k ≤ 20 := by omega
  have HN := Lib.hid hkn
  have g1 : decide ((k : Int) < 0) = false := decide_eq_false (by omega)
  have g2 : decide ((20 : Int) < (k : Int)) = false := decide_eq_false (by omega)
  clear hk h0 h20 hkn
  unfold Tg.val
  clear hbad
  go_enter Tryd.func5, Tryd.ntmps5
  go_upto_region 6 with fail
  change Code.wp _ _ _ _ (five w t)
  generalize hW : five w t = W at *
  have hMW : M < W.heap.size := by have := HSz.out; omega
  obtain ⟨tb, b1, b2, b3, b4⟩ := boxes_at hbx
  unfold tgC at tb
  have t0 : W.cell? ⟨w.heap.size, 0, none⟩ = some (.int .i64 t.kind) := blk_cell tb 0
  have t1 : W.cell? ⟨w.heap.size, 1, none⟩ = some (.int .i64 t.n) := blk_cell tb 1
  have t2 : W.cell? ⟨w.heap.size, 2, none⟩ = some (.int .i64 t.acc) := blk_cell tb 2
  have t3 : W.cell? ⟨w.heap.size, 3, none⟩ = some (.string t.name) := blk_cell tb 3
  have t4 : W.cell? ⟨w.heap.size, 4, none⟩ = some (.string t.text) := blk_cell tb 4
  have t5 : W.cell? ⟨w.heap.size, 5, none⟩ = some (.bool t.exec) := blk_cell tb 5
  clear hW
  rw [HK.out] at t0
  rw [HN.out] at t1
  clear tb b1 b2 b3 b4
  have hlt := h.olt
  have HT1 := Lib.hid (array_at hR5 k)
  have HBx1 := Lib.hid hbx
  have HM1 := Lib.hid hM5
  have HH := Lib.hid (And.intro hMO (And.intro hOM (And.intro hMlt (And.intro hb5 hlt))))
  clear hbx hM5 hR5 hMO hOM hb5 hM h hlt
  go_wp2_with fail
  refine HT1.out.mono ?_; rintro e W2 hM
  rcases hM with ⟨hne, _⟩ | ⟨_, rfl, l, hR2, hF2⟩
  · exact absurd (by unfold clm mostI cellsI; simp; omega) hne
  have hbx2 := HBx1.out.frm (hF2.mono (fun k _ hk => Or.inl hk))
  have hM2 := (hF2.block M hMW HH.out.1).trans HM1.out
  have hO2 : ∀ q, Up O W W2 q → O q ∨ w.heap.size + 5 ≤ q := fun q hk => by
    rcases hk with e | e
    · exact .inl e
    · exact .inr (by have := HSz.out; omega)
  generalize Up O W W2 = O2 at hR2 hO2
  rw [Int.toNat_natCast] at hR2
  have HO2 := Lib.hid hO2
  obtain ⟨tb, b1, b2, b3, b4⟩ := boxes_at hbx2
  unfold obC nul at b3
  obtain ⟨x0, x1, x2, x3, x4, x5, x6, x7⟩ := cellsOb b3
  have xf := blk_free b3
  have HB3 := Lib.hid b3
  have HBx2 := Lib.hid hbx2
  have HM2 := Lib.hid hM2
  have HR2 := Lib.hid hR2
  clear tb b1 b2 b3 b4 hbx2 hM2 hR2 hF2 hO2 t0 t1 t2 t3 t4 t5 HT1 HBx1 HM1
  have hno : newOb ⟨7, [], List.replicate (k : Int).toNat nul, [], 0, 0⟩ (List.length ([] : List (Th × Lay))) = ⟨7, false, 0, 0, ⟨#[]⟩, 1, 0, k⟩ := by simp [newOb, Th.length]
  rw [hno]
  unfold Ob.val
  clear hno
  go_upto_region 16 with fail
  have hp := put8 HB3.out (.int .i64 7) (.bool false) (.int .i64 0) (.int .i64 0) (.string ⟨#[]⟩) (.int .i64 1) (.int .i64 0) (.int .i64 k)
  generalize hW3 : ((((((((W2.setCell ⟨w.heap.size + 1 + 1 + 1, 0, none⟩ (.int .i64 7)).setCell ⟨w.heap.size + 1 + 1 + 1, 1, none⟩ (.bool false)).setCell ⟨w.heap.size + 1 + 1 + 1, 2, none⟩ (.int .i64 0)).setCell ⟨w.heap.size + 1 + 1 + 1, 3, none⟩ (.int .i64 0)).setCell ⟨w.heap.size + 1 + 1 + 1, 4, none⟩ (.string ⟨#[]⟩)).setCell ⟨w.heap.size + 1 + 1 + 1, 5, none⟩ (.int .i64 1)).setCell ⟨w.heap.size + 1 + 1 + 1, 6, none⟩ (.int .i64 0)).setCell ⟨w.heap.size + 1 + 1 + 1, 7, none⟩ (.int .i64 k)) = W3 at hp ⊢
  clear hW3 x0 x1 x2 x3 x4 x5 x6 x7 xf HB3
  have hbx3 := boxes_o (o' := ⟨7, false, 0, 0, ⟨#[]⟩, 1, 0, k⟩) HBx2.out hp.blk hp.far hp.size hp.os hp.tape hp.output
  have hM3 := (hp.far M (by have := HH.out.2.2.1; omega)).trans HM2.out
  have HR3 := Lib.hid (Car7.put ⟨_, HR2.out⟩ HO2.out HH.out.2.2.2.2 (fun k h1 => hp.far k (by omega)) hp.size)
  clear hp HBx2 HM2 HR2
  have hb4 := below1 W3 (.cells (nvals k) 40)
  have hmk := make_vals k (by omega) W3
  have hsx : SrcX (W3.alloc (.cells (nvals k) 40)) (some ⟨W3.heap.size, 0, none⟩) (nvals k).toList := .inr ⟨_, rfl, fun j z hz => by
    rw [Addr.add_lit, Nat.zero_add, blk_cell (heap_alloc_new W3 _) j, ← hz]; simp⟩
  obtain ⟨tb, b1, b2, b3, b4⟩ := boxes_at hbx3
  unfold tgC at tb
  have u1 : W3.cell? ⟨w.heap.size, 1, none⟩ = some (.int .i64 k) := by rw [← HN.out]; exact blk_cell tb 1
  have hM3lt := (Array.getElem?_eq_some_iff.1 hM3).1
  have hT4 := mlist_at (c0 := k) (k := 0) (ps := []) ((hb4.block M hM3lt).trans hM3) (by omega) (by omega) (by omega) (World.ownsRow_nil _ _ _ _) (by omega) (nvals_len k) (nvals_one k) hsx (fun e => by cases e) (fun ad e => by cases e; show W3.heap.size ≠ M; omega) (by omega)
  have HT4 := Lib.hid hT4
  have HBx4 := Lib.hid (hbx3.below hb4)
  have HS4 := Lib.hid (show w.heap.size + 5 ≤ (W3.alloc (.cells (nvals k) 40)).heap.size by have := (Array.getElem?_eq_some_iff.1 b4).1; have := hb4.size; omega)
  have HR4 := Lib.hid (show Car7 O2 s ([] ++ [(⟨7, [], List.replicate k nul, [], 0, 0⟩, l)]) (W3.alloc (.cells (nvals k) 40)) from by obtain ⟨fr, hr⟩ := HR3.out; exact ⟨fr, hr.below hb4⟩)
  clear hT4 hb4 hM3 hbx3 HR3 tb b1 b2 b3 b4 hsx
  go_wp2_with fail
  refine HT4.out.mono ?_; rintro e W5 hP
  rcases hP with ⟨hne, _⟩ | ⟨_, A, B, c, rfl, hTW⟩
  · refine absurd ?_ hne
    unfold tkE
    rw [if_neg (by omega), if_neg (by omega), if_neg (by omega)]
  have hF5 : Frm (fun q => q = M) (W3.alloc (.cells (nvals k) 40)) W5 := hTW.frm.mono (fun q _ hq => by rcases hq with e | e; exact e; cases e)
  have hbx5 := HBx4.out.frm (hF5.mono (fun k _ hk => Or.inr hk))
  have hR5 : Car7 O2 s ([] ++ [(⟨7, [], List.replicate k nul, [], 0, 0⟩, l)]) W5 := by
    obtain ⟨fr, hr⟩ := HR4.out
    exact ⟨fr, hr.same hF5.size (fun q hq hO => hF5.block q hq (fun e => by
      rcases HO2.out q hO with e1 | e1
      · rw [e] at e1; exact HH.out.1 e1
      · have := HH.out.2.2.1; omega))⟩
  obtain ⟨tb, b1, b2, b3, b4⟩ := boxes_at hbx5
  unfold tgC at tb
  have u0 : W5.cell? ⟨w.heap.size, 0, none⟩ = some (.int .i64 7) := by rw [← HK.out]; exact blk_cell tb 0
  have u2 : W5.cell? ⟨w.heap.size, 2, none⟩ = some (.int .i64 t.acc) := blk_cell tb 2
  have u5 : W5.cell? ⟨w.heap.size, 5, none⟩ = some (.bool t.exec) := blk_cell tb 5
  unfold vlC nulV at b4
  obtain ⟨y0, y1, y2, y3, y4, y5, y6, y7, y8, y9, yf⟩ := cells10 b4
  have HB4 := Lib.hid b4
  have HBx5 := Lib.hid hbx5
  have HF5 := Lib.hid hR5
  clear tb b1 b2 b3 b4 hbx5 hR5 hTW hF5 hmk u1 HT4 HBx4 HR4
  unfold arrV Vl.val
  go_upto_region 25 with fail
  have hp := put10 HB4.out (.int .i64 7) (.bool false) (.int .i64 0) (.int .i64 0) (.string ⟨#[]⟩) (.pointer none) (.pointer (some ⟨A, 0, none⟩)) (.pointer none) (.int .i64 0) (.int .i64 k)
  generalize hW6 : ((((((((((W5.setCell ⟨w.heap.size + 1 + 1 + 1 + 1, 0, none⟩ (.int .i64 7)).setCell ⟨w.heap.size + 1 + 1 + 1 + 1, 1, none⟩ (.bool false)).setCell ⟨w.heap.size + 1 + 1 + 1 + 1, 2, none⟩ (.int .i64 0)).setCell ⟨w.heap.size + 1 + 1 + 1 + 1, 3, none⟩ (.int .i64 0)).setCell ⟨w.heap.size + 1 + 1 + 1 + 1, 4, none⟩ (.string ⟨#[]⟩)).setCell ⟨w.heap.size + 1 + 1 + 1 + 1, 5, none⟩ (.pointer none)).setCell ⟨w.heap.size + 1 + 1 + 1 + 1, 6, none⟩ (.pointer (some ⟨A, 0, none⟩))).setCell ⟨w.heap.size + 1 + 1 + 1 + 1, 7, none⟩ (.pointer none)).setCell ⟨w.heap.size + 1 + 1 + 1 + 1, 8, none⟩ (.int .i64 0)).setCell ⟨w.heap.size + 1 + 1 + 1 + 1, 9, none⟩ (.int .i64 k)) = W6 at hp ⊢
  have hbx := boxes_v (v' := ⟨7, false, 0, 0, ⟨#[]⟩, .pointer none, .pointer (some ⟨A, 0, none⟩), .pointer none, 0, k⟩) HBx5.out hp.blk hp.far hp.size hp.os hp.tape hp.output
  have HF := Lib.hid (Car7.put HF5.out HO2.out HH.out.2.2.2.2 (fun k h1 => hp.far k (by omega)) hp.size)
  clear hp hW6 u0 u2 u5 y0 y1 y2 y3 y4 y5 y6 y7 y8 y9 yf HB4 HBx5 HF5
  obtain ⟨tb, b1, b2, b3, b4⟩ := boxes_at hbx
  unfold tgC at tb
  have u0 : W6.cell? ⟨w.heap.size, 0, none⟩ = some (.int .i64 7) := by rw [← HK.out]; exact blk_cell tb 0
  have u2 : W6.cell? ⟨w.heap.size, 2, none⟩ = some (.int .i64 t.acc) := blk_cell tb 2
  have u5 : W6.cell? ⟨w.heap.size, 5, none⟩ = some (.bool t.exec) := blk_cell tb 5
  unfold obC nul at b1
  unfold obC at b3
  unfold vlC nulV at b2
  unfold vlC at b4
  obtain ⟨x0, x1, x2, x3, x4, x5, x6, x7⟩ := cellsOb b3
  have xf := blk_free b3
  obtain ⟨y0, y1, y2, y3, y4, y5, y6, y7, y8, y9, yf⟩ := cells10 b4
  have HB3 := Lib.hid b3
  have HB4 := Lib.hid b4
  have HB1 := Lib.hid b1
  have HB2 := Lib.hid b2
  have HBX := Lib.hid hbx
  clear tb b1 b2 b3 b4 hbx
  go_upto_region 26 with fail
  go_region
  go_upto_region 27 with fail
  generalize hWx : ((W6.setCell ⟨w.heap.size + 1 + 1 + 1, 2, none⟩ (.int .i64 t.acc)).setCell ⟨w.heap.size + 1 + 1 + 1 + 1, 2, none⟩ (.int .i64 t.acc)).drew = Wa at *
  have hA : Bx (OM O M) w (boxes w t (obC nul) (vlC nulV) ⟨7, false, t.acc, 0, ⟨#[]⟩, 1, 0, k⟩ ⟨7, false, 0, 0, ⟨#[]⟩, .pointer none, .pointer (some ⟨A, 0, none⟩), .pointer none, 0, k⟩) (W6.setCell ⟨w.heap.size + 1 + 1 + 1, 2, none⟩ (.int .i64 t.acc)) := boxes_o (o' := ⟨7, false, t.acc, 0, ⟨#[]⟩, 1, 0, k⟩) HBX.out (blk_set HB3.out 2 (.int .i64 t.acc)) (fun k hk => blk_far hk _) (setC_size _ _ _) rfl rfl rfl
  have hbx : Bx (OM O M) w (boxes w t (obC nul) (vlC nulV) ⟨7, false, t.acc, 0, ⟨#[]⟩, 1, 0, k⟩ ⟨7, false, t.acc, 0, ⟨#[]⟩, .pointer none, .pointer (some ⟨A, 0, none⟩), .pointer none, 0, k⟩) Wa := by
    rw [← hWx]
    exact (boxes_v (v' := ⟨7, false, t.acc, 0, ⟨#[]⟩, .pointer none, .pointer (some ⟨A, 0, none⟩), .pointer none, 0, k⟩) hA (blk_set ((blk_far (by omega) _).trans HB4.out) 2 (.int .i64 t.acc)) (fun k hk => blk_far hk _) (setC_size _ _ _) rfl rfl rfl).drews 1
  have hfar : ∀ k, (k < w.heap.size ∨ w.heap.size + 5 ≤ k) → Wa.heap[k]? = W6.heap[k]? := fun k h1 => by
    rw [← hWx]
    exact (blk_far (by omega) _).trans (blk_far (by omega) _)
  have hsz : Wa.heap.size = W6.heap.size := by
    rw [← hWx]
    show ((_ : World).setCell _ _).heap.size = _
    rw [setC_size, setC_size]
  clear hWx hA
  clear u0 u2 u5 x0 x1 x2 x3 x4 x5 x6 x7 xf y0 y1 y2 y3 y4 y5 y6 y7 y8 y9 yf HB3 HB4 HB1 HB2
  have HC := Lib.hid (Car7.put HF.out HO2.out HH.out.2.2.2.2 hfar hsz)
  clear HF hfar hsz HBX
  have HF := Lib.hid HC.out
  clear HC
  obtain ⟨tb, b1, b2, b3, b4⟩ := boxes_at hbx
  unfold tgC at tb
  have u0 : Wa.cell? ⟨w.heap.size, 0, none⟩ = some (.int .i64 7) := by rw [← HK.out]; exact blk_cell tb 0
  have u2 : Wa.cell? ⟨w.heap.size, 2, none⟩ = some (.int .i64 t.acc) := blk_cell tb 2
  have u5 : Wa.cell? ⟨w.heap.size, 5, none⟩ = some (.bool t.exec) := blk_cell tb 5
  unfold obC nul at b1
  unfold obC at b3
  unfold vlC nulV at b2
  unfold vlC at b4
  obtain ⟨x0, x1, x2, x3, x4, x5, x6, x7⟩ := cellsOb b3
  have xf := blk_free b3
  obtain ⟨y0, y1, y2, y3, y4, y5, y6, y7, y8, y9, yf⟩ := cells10 b4
  have HB3 := Lib.hid b3
  have HB4 := Lib.hid b4
  have HB1 := Lib.hid b1
  have HB2 := Lib.hid b2
  have HBX := Lib.hid hbx
  clear tb b1 b2 b3 b4 hbx
  go_region
  go_upto_region 28 with fail
  generalize hWx : ((Wa.setCell ⟨w.heap.size + 1 + 1 + 1, 1, none⟩ (.bool t.exec)).setCell ⟨w.heap.size + 1 + 1 + 1 + 1, 1, none⟩ (.bool t.exec)).drew = We at *
  have hA : Bx (OM O M) w (boxes w t (obC nul) (vlC nulV) ⟨7, t.exec, t.acc, 0, ⟨#[]⟩, 1, 0, k⟩ ⟨7, false, t.acc, 0, ⟨#[]⟩, .pointer none, .pointer (some ⟨A, 0, none⟩), .pointer none, 0, k⟩) (Wa.setCell ⟨w.heap.size + 1 + 1 + 1, 1, none⟩ (.bool t.exec)) := boxes_o (o' := ⟨7, t.exec, t.acc, 0, ⟨#[]⟩, 1, 0, k⟩) HBX.out (blk_set HB3.out 1 (.bool t.exec)) (fun k hk => blk_far hk _) (setC_size _ _ _) rfl rfl rfl
  have hbx : Bx (OM O M) w (boxes w t (obC nul) (vlC nulV) ⟨7, t.exec, t.acc, 0, ⟨#[]⟩, 1, 0, k⟩ ⟨7, t.exec, t.acc, 0, ⟨#[]⟩, .pointer none, .pointer (some ⟨A, 0, none⟩), .pointer none, 0, k⟩) We := by
    rw [← hWx]
    exact (boxes_v (v' := ⟨7, t.exec, t.acc, 0, ⟨#[]⟩, .pointer none, .pointer (some ⟨A, 0, none⟩), .pointer none, 0, k⟩) hA (blk_set ((blk_far (by omega) _).trans HB4.out) 1 (.bool t.exec)) (fun k hk => blk_far hk _) (setC_size _ _ _) rfl rfl rfl).drews 1
  have hfar : ∀ k, (k < w.heap.size ∨ w.heap.size + 5 ≤ k) → We.heap[k]? = Wa.heap[k]? := fun k h1 => by
    rw [← hWx]
    exact (blk_far (by omega) _).trans (blk_far (by omega) _)
  have hsz : We.heap.size = Wa.heap.size := by
    rw [← hWx]
    show ((_ : World).setCell _ _).heap.size = _
    rw [setC_size, setC_size]
  clear hWx hA
  clear u0 u2 u5 x0 x1 x2 x3 x4 x5 x6 x7 xf y0 y1 y2 y3 y4 y5 y6 y7 y8 y9 yf HB3 HB4 HB1 HB2
  have HC := Lib.hid (Car7.put HF.out HO2.out HH.out.2.2.2.2 hfar hsz)
  clear HF hfar hsz HBX
  have HF := Lib.hid HC.out
  clear HC
  obtain ⟨tb, b1, b2, b3, b4⟩ := boxes_at hbx
  unfold tgC at tb
  have u0 : We.cell? ⟨w.heap.size, 0, none⟩ = some (.int .i64 7) := by rw [← HK.out]; exact blk_cell tb 0
  have u2 : We.cell? ⟨w.heap.size, 2, none⟩ = some (.int .i64 t.acc) := blk_cell tb 2
  have u5 : We.cell? ⟨w.heap.size, 5, none⟩ = some (.bool t.exec) := blk_cell tb 5
  unfold obC nul at b1
  unfold obC at b3
  unfold vlC nulV at b2
  unfold vlC at b4
  obtain ⟨x0, x1, x2, x3, x4, x5, x6, x7⟩ := cellsOb b3
  have xf := blk_free b3
  obtain ⟨y0, y1, y2, y3, y4, y5, y6, y7, y8, y9, yf⟩ := cells10 b4
  have HB3 := Lib.hid b3
  have HB4 := Lib.hid b4
  have HB1 := Lib.hid b1
  have HB2 := Lib.hid b2
  have HBX := Lib.hid hbx
  clear tb b1 b2 b3 b4 hbx
  have sI := And.intro x0 (And.intro x1 (And.intro x2 (And.intro x3 (And.intro x4 (And.intro x5 (And.intro x6 (And.intro x7 (And.intro y0 (And.intro y1 (And.intro y2 (And.intro y3 (And.intro y4 (And.intro y5 (And.intro y6 (And.intro y7 (And.intro y8 y9))))))))))))))))
  obtain ⟨p0, p1, p2, p3, p4, p5, p6, p7⟩ := cellsOb HB1.out
  have pf := blk_free HB1.out
  obtain ⟨q0, q1, q2, q3, q4, q5, q6, q7, q8, q9, qf⟩ := cells10 HB2.out
  have sD : We.drew.cell? ⟨w.heap.size + 1 + 1 + 1, 0, none⟩ = some (.int .i64 7) ∧ We.drew.cell? ⟨w.heap.size + 1 + 1 + 1, 1, none⟩ = some (.bool t.exec) ∧ We.drew.cell? ⟨w.heap.size + 1 + 1 + 1, 2, none⟩ = some (.int .i64 t.acc) ∧ We.drew.cell? ⟨w.heap.size + 1 + 1 + 1, 3, none⟩ = some (.int .i64 0) ∧ We.drew.cell? ⟨w.heap.size + 1 + 1 + 1, 4, none⟩ = some (.string ⟨#[]⟩) ∧ We.drew.cell? ⟨w.heap.size + 1 + 1 + 1, 5, none⟩ = some (.int .i64 1) ∧ We.drew.cell? ⟨w.heap.size + 1 + 1 + 1, 6, none⟩ = some (.int .i64 0) ∧ We.drew.cell? ⟨w.heap.size + 1 + 1 + 1, 7, none⟩ = some (.int .i64 k) ∧ We.drew.cell? ⟨w.heap.size + 1 + 1 + 1 + 1, 0, none⟩ = some (.int .i64 7) ∧ We.drew.cell? ⟨w.heap.size + 1 + 1 + 1 + 1, 1, none⟩ = some (.bool t.exec) ∧ We.drew.cell? ⟨w.heap.size + 1 + 1 + 1 + 1, 2, none⟩ = some (.int .i64 t.acc) ∧ We.drew.cell? ⟨w.heap.size + 1 + 1 + 1 + 1, 3, none⟩ = some (.int .i64 0) ∧ We.drew.cell? ⟨w.heap.size + 1 + 1 + 1 + 1, 4, none⟩ = some (.string ⟨#[]⟩) ∧ We.drew.cell? ⟨w.heap.size + 1 + 1 + 1 + 1, 5, none⟩ = some (.pointer none) ∧ We.drew.cell? ⟨w.heap.size + 1 + 1 + 1 + 1, 6, none⟩ = some (.pointer (some ⟨A, 0, none⟩)) ∧ We.drew.cell? ⟨w.heap.size + 1 + 1 + 1 + 1, 7, none⟩ = some (.pointer none) ∧ We.drew.cell? ⟨w.heap.size + 1 + 1 + 1 + 1, 8, none⟩ = some (.int .i64 0) ∧ We.drew.cell? ⟨w.heap.size + 1 + 1 + 1 + 1, 9, none⟩ = some (.int .i64 k) := sI
  go_region_held3 (fun w' => w'.cell? ⟨w.heap.size + 1 + 1 + 1, 0, none⟩ = some (.int .i64 7) ∧ w'.cell? ⟨w.heap.size + 1 + 1 + 1, 1, none⟩ = some (.bool t.exec) ∧ w'.cell? ⟨w.heap.size + 1 + 1 + 1, 2, none⟩ = some (.int .i64 t.acc) ∧ w'.cell? ⟨w.heap.size + 1 + 1 + 1, 3, none⟩ = some (.int .i64 0) ∧ w'.cell? ⟨w.heap.size + 1 + 1 + 1, 4, none⟩ = some (.string ⟨#[]⟩) ∧ w'.cell? ⟨w.heap.size + 1 + 1 + 1, 5, none⟩ = some (.int .i64 1) ∧ w'.cell? ⟨w.heap.size + 1 + 1 + 1, 6, none⟩ = some (.int .i64 0) ∧ w'.cell? ⟨w.heap.size + 1 + 1 + 1, 7, none⟩ = some (.int .i64 k) ∧ w'.cell? ⟨w.heap.size + 1 + 1 + 1 + 1, 0, none⟩ = some (.int .i64 7) ∧ w'.cell? ⟨w.heap.size + 1 + 1 + 1 + 1, 1, none⟩ = some (.bool t.exec) ∧ w'.cell? ⟨w.heap.size + 1 + 1 + 1 + 1, 2, none⟩ = some (.int .i64 t.acc) ∧ w'.cell? ⟨w.heap.size + 1 + 1 + 1 + 1, 3, none⟩ = some (.int .i64 0) ∧ w'.cell? ⟨w.heap.size + 1 + 1 + 1 + 1, 4, none⟩ = some (.string ⟨#[]⟩) ∧ w'.cell? ⟨w.heap.size + 1 + 1 + 1 + 1, 5, none⟩ = some (.pointer none) ∧ w'.cell? ⟨w.heap.size + 1 + 1 + 1 + 1, 6, none⟩ = some (.pointer (some ⟨A, 0, none⟩)) ∧ w'.cell? ⟨w.heap.size + 1 + 1 + 1 + 1, 7, none⟩ = some (.pointer none) ∧ w'.cell? ⟨w.heap.size + 1 + 1 + 1 + 1, 8, none⟩ = some (.int .i64 0) ∧ w'.cell? ⟨w.heap.size + 1 + 1 + 1 + 1, 9, none⟩ = some (.int .i64 k)) (first | with_reducible exact sD | with_reducible exact sI | with_reducible exact keep18a sI | with_reducible exact keep18b sI | with_reducible exact keep18a sI | with_reducible exact keep18b sI | fail) (fail)
  go_wp2_with fail
  have hfin := (fin2 HB1.out HB2.out (by omega) (.int .i64 7) (.bool t.exec) (.int .i64 t.acc) (.int .i64 0) (.string ⟨#[]⟩) (.int .i64 1) (.int .i64 0) (.int .i64 k) (.int .i64 7) (.bool t.exec) (.int .i64 t.acc) (.int .i64 0) (.string ⟨#[]⟩) (.pointer none) (.pointer (some ⟨A, 0, none⟩)) (.pointer none) (.int .i64 0) (.int .i64 k)).drew 1
  have hfar : ∀ k, (k < w.heap.size ∨ w.heap.size + 5 ≤ k) → _ = We.heap[k]? := fun k h1 => hfin.far k (by omega) (by omega)
  refine bodyPost_ret (results_bld Tryd.results5 _ _ (w.heap.size + 1) (w.heap.size + 1 + 1) rfl rfl rfl hfin.b1 hfin.b2) rfl ⟨⟨7, t.exec, t.acc, 0, ⟨#[]⟩, 1, 0, k⟩, ⟨7, t.exec, t.acc, 0, ⟨#[]⟩, .pointer none, .pointer (some ⟨A, 0, none⟩), .pointer none, 0, k⟩, true, rfl, ⟨_, _, _, rfl, rfl, rfl⟩, hfin.frm HBX.out.1 (by omega) (by omega), fun _ => ?_⟩
  obtain ⟨fr, hr⟩ := Car7.put HF.out HO2.out HH.out.2.2.2.2 hfar hfin.size
  exact ⟨O2, fr, _, hr, fun k hk => (HO2.out k hk).imp id (fun e => by omega), HBd.out, Or.inr (Or.inl ⟨HK.out, by rw [HN.out]; omega, by rw [HN.out]; omega, by rw [HN.out], ⟨l, by rw [HN.out]; rfl⟩, rfl⟩)⟩
end Cn
end Go.Proofs.YtigjkkmnellanaaDoor
