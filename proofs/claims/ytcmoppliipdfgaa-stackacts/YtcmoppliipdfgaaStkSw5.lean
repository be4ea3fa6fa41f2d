/-
  The switch of the law StackActs, case by case: Push.
-/
import Derived.Test.YtcmoppliipdfgaaStkSw1
namespace Go.Proofs.Ytcmoppliipdfgaa
open Go.RowKit
open St Stk
theorem wp_append_run8 {P : Program} (w : World) {o : Oper} {a : Act} {K : Act → World → Prop} {Q : Exit → Act → World → Prop} (s x : Operand) (t u ty : TypeId) (v : Value)
    (ho : o.op = .call { callee := .builtin .append, args := #[s, x], argTypes := #[t, u] }) (hty : o.type = ty) (us ux : Value) (hs : a.eval s = us) (hx : a.eval x = ux)
    (w2 : World) (hr : (Builtin.append_ #[t, u] ty #[us, ux]).run P w = .ok v w2) (h : K (a.put o.dst v) w2) : o.wp P a w K Q := by
  unfold Oper.wp execOp
  simp only [ho, hty, resolve, invoke, builtin, Sem.run_bind, Sem.run_pure, Result.andThen_ok, List.map_toArray, List.map_cons, List.map_nil, hs, hx, hr]
  exact h
section
variable {w W : World} {M : Int} {va ma : Option Addr} {vc n0 i b mc : Nat} {l : List Ob} {x : Kc} {O : Nat → Prop} {a : Act}
set_option maxRecDepth 100000
set_option maxHeartbeats 2000000
theorem sw_push_no (h : InS w M va ma vc n0 i b mc l x O a W) (hdd : x.d = 1) (hf : ¬ (l.length : Int) + x.l.length ≤ M) : SwOk w M va vc n0 i a W := by
  intro J K' Q' hJ hK hQ
  obtain ⟨u, rfl⟩ := h.fr.out
  obtain ⟨z0, z1, z2, z3, z4⟩ := boxCells h.box
  rw [hdd] at z0
  obtain ⟨qa, qc, hqk, _⟩ := h.kp.sk.skc
  have HK := Lib.hid h.kp
  have HO := Lib.hid h.kp.sk.olt
  have HLL := Lib.hid h.ll
  have hi6 := h.i6
  have hll6 : l.length ≤ 6000 := by have := h.ll; omega
  have hbW : b < W.heap.size := (Array.getElem?_eq_some_iff.1 h.box).1
  have HBox := Lib.hid h.box
  have HNo := Lib.hid h.no
  have hxl := h.xl
  have hm0 := h.m0
  have hm1 := h.m1
  obtain ⟨B, c2, w3, hr, hb3, hB, hrow⟩ := copiedO h.kw.src h.kw.nil (by omega) 34
  have hk3 := h.kp.step hb3
  have HB3 := Lib.hid hb3
  have HR := Lib.hid hr
  have hbox3 := (hb3.block b hbW).trans HBox.out
  have HBox3 := Lib.hid hbox3
  have HK3 := Lib.hid hk3
  have HT := Lib.hid (push_full (c := c2) (a := some ⟨B, 0, none⟩) (ys := x.l) hk3.sk (by omega) hf)
  have hfit := h.kp.sk.fit
  have hgt : M - (l.length : Int) < (x.l.length : Int) := by omega
  clear h hqk hr hb3 hB hrow hk3 hbox3
  conv => arg 2; whnf
  go_wp2_with (at_builtin; refine wpList_append_run7 rfl (.tmp 71) (.tmp 73) 34 34 34 (.slice (some ⟨B, 0, none⟩) x.l.length c2) rfl rfl _ _ rfl rfl HR.out ?_)
  refine HT.out.mono ?_; rintro e w5 ⟨rfl, hp⟩
  obtain ⟨q0, q1, q2, q3, q4⟩ := boxCells (box_keep (Below.refl _ _) HNo.out hp HBox3.out)
  obtain ⟨O', hk5⟩ := HK3.out.turn hp
  have HKf := Lib.hid hk5
  clear hp hk5
  go_wp2_with fail
  refine Met.intro (hJ _ _ ⟨rfl, by kernel_rfl, by kernel_rfl, by kernel_rfl, by kernel_rfl, by kernel_rfl, by kernel_rfl, by kernel_rfl, ?_⟩)
  exact ⟨O', l, [], 12, HKf.out, by have := HLL.out; omega, by kernel_rfl, by kernel_rfl, rw_nil _, rw_nil _, by simp⟩
theorem sw_push_yes (h : InS w M va ma vc n0 i b mc l x O a W) (hdd : x.d = 1) (hf : (l.length : Int) + x.l.length ≤ M) : SwOk w M va vc n0 i a W := by
  intro J K' Q' hJ hK hQ
  obtain ⟨u, rfl⟩ := h.fr.out
  obtain ⟨z0, z1, z2, z3, z4⟩ := boxCells h.box
  rw [hdd] at z0
  obtain ⟨qa, qc, hqk, _⟩ := h.kp.sk.skc
  have HK := Lib.hid h.kp
  have HO := Lib.hid h.kp.sk.olt
  have HLL := Lib.hid h.ll
  have hi6 := h.i6
  have hll6 : l.length ≤ 6000 := by have := h.ll; omega
  have hbW : b < W.heap.size := (Array.getElem?_eq_some_iff.1 h.box).1
  have HBox := Lib.hid h.box
  have HNo := Lib.hid h.no
  have hxl := h.xl
  have hm0 := h.m0
  have hm1 := h.m1
  obtain ⟨B, c2, w3, hr, hb3, hB, hrow⟩ := copiedO h.kw.src h.kw.nil (by omega) 34
  have hk3 := h.kp.step hb3
  have HB3 := Lib.hid hb3
  have HR := Lib.hid hr
  have hbox3 := (hb3.block b hbW).trans HBox.out
  have HBox3 := Lib.hid hbox3
  have HK3 := Lib.hid hk3
  have HT := Lib.hid (push_fit (c := c2) (a := some ⟨B, 0, none⟩) (ys := x.l) hk3.sk hrow.src (fun e => by cases e) (by omega) hf)
  have hfit := h.kp.sk.fit
  have hgt : ¬ M - (l.length : Int) < (x.l.length : Int) := by omega
  have HSrc := Lib.hid (fun (O' : Nat → Prop) w5 (hb : Below w.heap.size w w5) lo => srcN_of (O := O') (W := w5) h.kw0.src hb lo)
  have HNil := Lib.hid h.kw.nil
  clear h hqk hr hb3 hB hrow hk3 hbox3
  conv => arg 2; whnf
  go_wp2_with (at_builtin; refine wpList_append_run7 rfl (.tmp 71) (.tmp 73) 34 34 34 (.slice (some ⟨B, 0, none⟩) x.l.length c2) rfl rfl _ _ rfl rfl HR.out ?_)
  refine HT.out.mono ?_; rintro e w5 ⟨rfl, hp⟩
  obtain ⟨q0, q1, q2, q3, q4⟩ := boxCells (box_keep (Below.refl _ _) HNo.out hp HBox3.out)
  have hb5 : b < w5.heap.size := World.block_lt_of_cell? w5 _ q0
  obtain ⟨O', hk5⟩ := HK3.out.turn hp
  obtain ⟨ra, rc, re, hra, hrn, _⟩ := hk5.row
  cases re
  have hk5d := hk5.step (below_draw (Below.refl _ _) 1)
  obtain ⟨B6, c6, w6, hr6, hb6, hB6, hrow6⟩ := copiedO (hra.below (below_draw (Below.refl _ _) 1)).src hrn (by omega) 34
  have hsrc6 := (HSrc.out O' w5 hk5.bel hk5.lo).src.below ((below_draw (Below.refl w5.heap.size w5) 1).trans hb6)
  obtain ⟨v7, w7, hr7, hs7, hg7, hi7, _⟩ := SL.append hrow6 hsrc6 HNil.out (by omega) 34
  have hb7 : Below (w5.drewN 1).heap.size (w5.drewN 1) w7 := Below.grown hb6 hg7 (by have := hb6.size; omega) (fun k hk => by have := isB_le (k := k) (g := B6) (n := l.length) (c := c6) hk; omega)
  have hkf := hk5d.other hb7 hs7 (fun k hk => by
    rcases hi7 k hk with e | e
    · have := isB_le e; omega
    · have := hb6.size; omega)
  have Q3 : w6.cell? ⟨b, 3, none⟩ = some (.slice x.la x.l.length x.lc) := (hb6.cell (p := ⟨b, 3, none⟩) hb5).trans q3
  obtain ⟨va7, vc7, rfl, _⟩ := hs7.form
  obtain ⟨vn, hvn⟩ : ∃ k, (l ++ x.l).length = k := ⟨_, rfl⟩
  rw [hvn] at hr7
  rw [hvn] at hkf
  have HR6 := Lib.hid hr6
  have HR7 := Lib.hid hr7
  have HKf := Lib.hid hkf
  have HQ3 := Lib.hid Q3
  have HQ7 := Lib.hid ((hb7.cell (p := ⟨b, 3, none⟩) hb5).trans q3)
  have HVn := Lib.hid hvn
  have HQ5 := Lib.hid (((((below_draw (Below.refl w5.heap.size w5) 1).alloc (Nat.le_refl _) (.cells #[] 40))).cell (p := ⟨b, 3, none⟩) hb5).trans q3)
  clear hp hk5 hk5d hra hr6 hb6 hB6 hrow6 hsrc6 hr7 hs7 hg7 hi7 hb7 hkf Q3 hvn
  go_upto_region 21 with (fail)
  refine wp_region_held_drew (S := fun w' => w'.cell? ⟨b, 3, none⟩ = some (.slice x.la x.l.length x.lc)) (by kernel_rfl) q3 (fun hHeld => ?_)
  refine take_s (i := 1) (v := ?_) rfl (by kernel_rfl) (by kernel_rfl) (by kernel_rfl) (fun c a1 w2 h => hQ c a1 _ _ w2 h) (Or.inl ⟨by rfl, ?_⟩) (by assumption) ?_
  rotate_left
  · intro wq y3; go_simp <;> with_reducible rfl
  simp only [Act.put, List.setIfInBounds_toArray, List.set_cons_zero, List.set_cons_succ]
  refine take_s (i := 3) (v := ?_) rfl (by kernel_rfl) (by kernel_rfl) (by kernel_rfl) (fun c a1 w2 h => hQ c a1 _ _ w2 h) (Or.inl ⟨by rfl, ?_⟩) (by assumption) ?_
  rotate_left
  · intro wq y3; go_simp <;> with_reducible rfl
  simp only [Act.put, List.setIfInBounds_toArray, List.set_cons_zero, List.set_cons_succ]
  refine take_s (i := 4) (v := ?_) rfl (by kernel_rfl) (by kernel_rfl) (by kernel_rfl) (fun c a1 w2 h => hQ c a1 _ _ w2 h) (Or.inl ⟨by rfl, ?_⟩) (by assumption) ?_
  rotate_left
  · intro wq y3; go_simp <;> with_reducible rfl
  simp only [Act.put, List.setIfInBounds_toArray, List.set_cons_zero, List.set_cons_succ]
  refine wpAnyH_ready (rs := [0]) (by kernel_rfl) (by simp) ?_
  refine cons_s rfl (fun Ka hKa => ?_) AllReadyH.nil
  go_simp
  refine hKa.out _ _ ?_ (fun hHeld2 => ?_)
  · exact HQ5.out
  clear hKa Ka
  try simp only [Act.put, List.setIfInBounds_toArray, List.set_cons_zero, List.set_cons_succ]
  refine wpAnyH_ready (rs := [2]) (by kernel_rfl) (by simp) ?_
  refine cons_s rfl (fun Kb hKb => ?_) AllReadyH.nil
  rw [if_pos (by rfl)]
  refine wp_append_run8 _ (.tmp 84) (.tmp 85) 34 34 34 (.slice (some ⟨B6, 0, none⟩) l.length c6) rfl rfl _ _ rfl rfl w6 HR6.out ?_
  refine hKb.out _ _ HQ3.out (fun _ => ?_)
  clear hKb Kb
  try simp only [Act.put, List.setIfInBounds_toArray, List.set_cons_zero, List.set_cons_succ]
  refine wpAnyH_ready (rs := [5]) (by kernel_rfl) (by simp) ?_
  refine cons_s rfl (fun Kc hKc => ?_) AllReadyH.nil
  rw [if_pos (by rfl)]
  refine wp_append_run8 _ (.tmp 86) (.tmp 88) 34 34 34 (.slice va7 vn vc7) rfl rfl _ _ rfl rfl w7 HR7.out ?_
  refine hKc.out _ _ HQ7.out (fun _ => ?_)
  clear hKc Kc
  try simp only [Act.put, List.setIfInBounds_toArray, List.set_cons_zero, List.set_cons_succ]
  refine wpAnyH_ready (rs := [6]) (by kernel_rfl) (by simp) ?_
  refine cons_s rfl (fun Kd hKd => ?_) AllReadyH.nil
  go_simp
  refine hKd.out _ _ HQ7.out (fun _ => ?_)
  clear hKd Kd
  try simp only [Act.put, List.setIfInBounds_toArray, List.set_cons_zero, List.set_cons_succ]
  refine wpAnyH_done (by kernel_rfl) ?_ _
  go_wp2_with fail
  refine Met.intro (hJ _ _ ⟨rfl, by kernel_rfl, by kernel_rfl, by kernel_rfl, by kernel_rfl, by kernel_rfl, by kernel_rfl, by kernel_rfl, ?_⟩)
  exact ⟨O', l ++ x.l, [], 0, HKf.out, by rw [List.length_append]; have := HLL.out; omega, by kernel_rfl, by kernel_rfl, rw_nil _, rw_nil _, by simp⟩
end
end Go.Proofs.Ytcmoppliipdfgaa
