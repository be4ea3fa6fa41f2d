/-
  The law SaveRefuses, walked.
-/
import Derived.Test.YtlflkdmbbomjeaaSavStart
namespace Go.Proofs.Ytlflkdmbbomjeaa
open Go.RowKit
open St
/-- what stands between two calls of the law: the object's box, a store with its saves, and saves of no store -/
structure RS (w w' : World) (o : Ob) (u : Nat) : Prop where
  box : w'.heap[w.heap.size]? = some (obC o)
  ss : SS (w.heap.size + 1) w' (w.heap.size + 1) (w.heap.size + 1 + 1) 100 [] [] 0
  los : Los w' (.pointer (some ⟨u, 0, none⟩))
  bel : Below w.heap.size w w'
theorem RS.step {w w' w'' : World} {o : Ob} {u : Nat} (h : RS w w' o u) (hb : Below w'.heap.size w' w'') : RS w w'' o u :=
  ⟨(hb.block _ (Array.getElem?_eq_some_iff.1 h.box).1).trans h.box, h.ss.below hb, h.los.below hb, bthen h.bel hb⟩
theorem fnd_nil (o : Ob) : fndI [] o = -1 := by
  unfold fndI fdI
  split <;> rfl
theorem RS.cells {w w' : World} {o : Ob} {u : Nat} (h : RS w w' o u) : w'.cell? ⟨w.heap.size, 0, none⟩ = some (.int .i64 o.kind) ∧ w'.cell? ⟨w.heap.size, 1, none⟩ = some (.bool o.exec) ∧ w'.cell? ⟨w.heap.size, 2, none⟩ = some (.int .i64 o.acc) ∧ w'.cell? ⟨w.heap.size, 3, none⟩ = some (.int .i64 o.n) ∧ w'.cell? ⟨w.heap.size, 4, none⟩ = some (.string o.name) ∧ w'.cell? ⟨w.heap.size, 5, none⟩ = some (.int .i64 o.ref) ∧ w'.cell? ⟨w.heap.size, 6, none⟩ = some (.int .i64 o.frm) ∧ w'.cell? ⟨w.heap.size, 7, none⟩ = some (.int .i64 o.len) := cellsOb (by have := h.box; unfold obC at this; exact this)
set_option maxRecDepth 100000 in
set_option maxHeartbeats 2000000 in
theorem lawSaveRefuses (o : Ob) (w : World) : Calls Try.prog 7 #[o.val] w fun e w' => e = .returned (.bool true) ∧ Below w.heap.size w w' := by
  have hN := new_mk 100 (w.alloc (obC o)) (by decide) (by decide)
  have hV := saves_new ((w.alloc (obC o)).alloc (.cells #[.slice none 0 0, .int .i64 0, .int .i64 100, .slice none 0 0, .int .i64 0, .slice none 0 0] 110)) (some ⟨w.heap.size + 1, 0, none⟩)
  have h0 := ss_new (w.alloc (obC o)) 100
  have hz : (w.alloc (obC o)).heap.size = w.heap.size + 1 := by simp
  have hz2 : ((w.alloc (obC o)).alloc (.cells #[.slice none 0 0, .int .i64 0, .int .i64 100, .slice none 0 0, .int .i64 0, .slice none 0 0] 110)).heap.size = w.heap.size + 1 + 1 := by simp
  rw [hz] at hN h0
  rw [hz2] at hV
  have hbx0 : (((w.alloc (obC o)).alloc (.cells #[.slice none 0 0, .int .i64 0, .int .i64 100, .slice none 0 0, .int .i64 0, .slice none 0 0] 110)).alloc (.cells #[.pointer (some ⟨w.heap.size + 1, 0, none⟩), .slice none 0 0] 158)).heap[w.heap.size]? = some (obC o) := by
    rw [heap_alloc_old _ _ (by simp; omega), heap_alloc_old _ _ (by simp)]
    exact heap_alloc_new w _
  have hbl0 := bthen (below1 w (obC o)) (below2 (w.alloc (obC o)) (.cells #[.slice none 0 0, .int .i64 0, .int .i64 100, .slice none 0 0, .int .i64 0, .slice none 0 0] 110) (.cells #[.pointer (some ⟨w.heap.size + 1, 0, none⟩), .slice none 0 0] 158))
  have HF := Lib.hid (show ∀ w2 w3 w4 : World, Below (((w.alloc (obC o)).alloc (.cells #[.slice none 0 0, .int .i64 0, .int .i64 100, .slice none 0 0, .int .i64 0, .slice none 0 0] 110)).alloc (.cells #[.pointer (some ⟨w.heap.size + 1, 0, none⟩), .slice none 0 0] 158)).heap.size (((w.alloc (obC o)).alloc (.cells #[.slice none 0 0, .int .i64 0, .int .i64 100, .slice none 0 0, .int .i64 0, .slice none 0 0] 110)).alloc (.cells #[.pointer (some ⟨w.heap.size + 1, 0, none⟩), .slice none 0 0] 158)) w2 →
      w3 = (w2.alloc (obC nul)).alloc (.cells #[.pointer none, .slice none 0 0] 158) → Below w3.heap.size w3 w4 → RS w (w4.alloc (obC nul)) o (w2.heap.size + 1) from fun w2 w3 w4 hb2 e3 hb4 => by
    subst e3
    have hl : Los ((w2.alloc (obC nul)).alloc (.cells #[.pointer none, .slice none 0 0] 158)) (.pointer (some ⟨w2.heap.size + 1, 0, none⟩)) := .inr ⟨_, rfl, by
      have : (w2.alloc (obC nul)).heap.size = w2.heap.size + 1 := by simp
      rw [← this]
      simp⟩
    have hb3 := bthen hb2 (below2 w2 (obC nul) (.cells #[.pointer none, .slice none 0 0] 158))
    have a : RS w ((w2.alloc (obC nul)).alloc (.cells #[.pointer none, .slice none 0 0] 158)) o (w2.heap.size + 1) := ⟨(hb3.block _ (by simp; omega)).trans hbx0, h0.below hb3, hl, bthen hbl0 hb3⟩
    exact (a.step hb4).step (below1 _ _))
  have HN := Lib.hid hN
  have HV := Lib.hid hV
  have HV2 := Lib.hid (fun w => saves_new w none)
  have HS1 := Lib.hid (fun w => save_lost (w := w) (pv := .pointer none) (.inl rfl))
  have HS2 := Lib.hid (fun w2 : World => save_lost (w := (w2.alloc (obC nul)).alloc (.cells #[.pointer none, .slice none 0 0] 158)) (pv := .pointer (some ⟨w2.heap.size + 1, 0, none⟩)) (.inr ⟨_, rfl, by
    have : (w2.alloc (obC nul)).heap.size = w2.heap.size + 1 := by simp
    rw [← this]
    simp⟩))
  unfold obC at HN HV HF HS2
  unfold nul Ob.val at HS1 HS2
  simp only [nul] at HF HS2
  unfold Ob.val
  clear hN hV h0 hbx0 hbl0 hz hz2
  by_cases hk : o.kind = 10
  · have HK := Lib.hid hk
    rw [hk] at HN HV ⊢
    clear hk
    go_enter Try.func7, Try.ntmps7
    go_wp2_with fail
    refine HN.out.mono ?_; rintro e w1 ⟨rfl, rfl⟩
    go_wp2_with fail
    refine HV.out.mono ?_; rintro e w1 ⟨rfl, rfl⟩
    go_wp2_with fail
    refine (HS1.out _).mono ?_; rintro e w2 ⟨rfl, hb2⟩
    rw [← HK.out] at hb2
    have HB2 := Lib.hid hb2
    clear hb2
    go_wp2_with fail
    refine (HV2.out _).mono ?_; rintro e w3 ⟨rfl, rfl⟩
    go_wp2_with fail
    refine (HS2.out w2).mono ?_; rintro e w4 ⟨rfl, hb4⟩
    have R5 := Lib.hid (HF.out _ _ _ HB2.out rfl hb4)
    clear hb4 HF HN HV HS1 HS2 HB2 HV2
    obtain ⟨x0, x1, x2, x3, x4, x5, x6, x7⟩ := R5.out.cells
    rw [HK.out] at x0
    go_wp2_with fail
    refine (answers06 _).mono ?_; rintro e w6 ⟨rfl, hb⟩
    have R6 := Lib.hid (R5.out.step hb)
    clear hb x0 x1 x2 x3 x4 x5 x6 x7
    obtain ⟨x0, x1, x2, x3, x4, x5, x6, x7⟩ := R6.out.cells
    rw [HK.out] at x0
    have C := Lib.hid (ss_restore_no R6.out.ss o (by rw [fnd_nil]; decide))
    rw [if_pos HK.out] at C
    unfold Ob.val at C
    rw [HK.out] at C
    go_wp2_with fail
    refine (C.out).mono ?_; rintro e w7 ⟨rfl, hb⟩
    have R7 := Lib.hid (R6.out.step hb)
    clear hb x0 x1 x2 x3 x4 x5 x6 x7
    obtain ⟨x0, x1, x2, x3, x4, x5, x6, x7⟩ := R7.out.cells
    rw [HK.out] at x0
    have C := Lib.hid (ss_alive R7.out.ss o)
    rw [fnd_nil] at C
    unfold Ob.val at C
    rw [HK.out] at C
    go_wp2_with fail
    refine (C.out).mono ?_; rintro e w8 ⟨rfl, hb⟩
    have R8 := Lib.hid (R7.out.step hb)
    clear hb x0 x1 x2 x3 x4 x5 x6 x7
    obtain ⟨x0, x1, x2, x3, x4, x5, x6, x7⟩ := R8.out.cells
    rw [HK.out] at x0
    have C := Lib.hid (restore_lost (w := w8) (pv := .pointer none) (.inl rfl) o)
    unfold Ob.val at C
    rw [HK.out] at C
    go_wp2_with fail
    refine (C.out).mono ?_; rintro e w9 ⟨rfl, hb⟩
    have R9 := Lib.hid (R8.out.step hb)
    clear hb x0 x1 x2 x3 x4 x5 x6 x7
    obtain ⟨x0, x1, x2, x3, x4, x5, x6, x7⟩ := R9.out.cells
    rw [HK.out] at x0
    have C := Lib.hid (restore_lost R9.out.los o)
    unfold Ob.val at C
    rw [HK.out] at C
    go_wp2_with fail
    refine (C.out).mono ?_; rintro e w10 ⟨rfl, hb⟩
    have R10 := Lib.hid (R9.out.step hb)
    clear hb x0 x1 x2 x3 x4 x5 x6 x7
    obtain ⟨x0, x1, x2, x3, x4, x5, x6, x7⟩ := R10.out.cells
    rw [HK.out] at x0
    have C := Lib.hid (depth_lost (w := w10) (pv := .pointer none) (.inl rfl))
    go_wp2_with fail
    refine C.out.mono ?_; rintro e w11 ⟨rfl, rfl⟩
    have C := Lib.hid (depth_lost R10.out.los)
    go_wp2_with fail
    refine C.out.mono ?_; rintro e w11 ⟨rfl, rfl⟩
    have C := Lib.hid (isAlive_lost (w := w11) (pv := .pointer none) (.inl rfl) o)
    unfold Ob.val at C
    rw [HK.out] at C
    go_wp2_with fail
    refine (C.out).mono ?_; rintro e w12 ⟨rfl, hb⟩
    have R12 := Lib.hid (R10.out.step hb)
    clear hb x0 x1 x2 x3 x4 x5 x6 x7
    obtain ⟨x0, x1, x2, x3, x4, x5, x6, x7⟩ := R12.out.cells
    rw [HK.out] at x0
    have C := Lib.hid (isAlive_lost R12.out.los o)
    unfold Ob.val at C
    rw [HK.out] at C
    go_wp2_with fail
    refine (C.out).mono ?_; rintro e w13 ⟨rfl, hb⟩
    have R13 := Lib.hid (R12.out.step hb)
    clear hb x0 x1 x2 x3 x4 x5 x6 x7
    obtain ⟨x0, x1, x2, x3, x4, x5, x6, x7⟩ := R13.out.cells
    rw [HK.out] at x0
    clear x0 x1 x2 x3 x4 x5 x6 x7
    go_wp2_with fail
    go_ret
    exact ⟨rfl, R13.out.bel⟩
  · have HK := Lib.hid hk
    have hkn : (o.kind == 10) = false := by simp [hk]
    clear hk
    go_enter Try.func7, Try.ntmps7
    go_wp2_with fail
    refine HN.out.mono ?_; rintro e w1 ⟨rfl, rfl⟩
    go_wp2_with fail
    refine HV.out.mono ?_; rintro e w1 ⟨rfl, rfl⟩
    go_wp2_with fail
    refine (HS1.out _).mono ?_; rintro e w2 ⟨rfl, hb2⟩
    have HB2 := Lib.hid hb2
    clear hb2
    go_wp2_with fail
    refine (HV2.out _).mono ?_; rintro e w3 ⟨rfl, rfl⟩
    go_wp2_with fail
    refine (HS2.out w2).mono ?_; rintro e w4 ⟨rfl, hb4⟩
    have R5 := Lib.hid (HF.out _ _ _ HB2.out rfl hb4)
    clear hb4 HF HN HV HS1 HS2 HB2 HV2
    obtain ⟨x0, x1, x2, x3, x4, x5, x6, x7⟩ := R5.out.cells
    go_wp2_with fail
    refine (answers06 _).mono ?_; rintro e w6 ⟨rfl, hb⟩
    have R6 := Lib.hid (R5.out.step hb)
    clear hb x0 x1 x2 x3 x4 x5 x6 x7
    obtain ⟨x0, x1, x2, x3, x4, x5, x6, x7⟩ := R6.out.cells
    have C := Lib.hid (ss_restore_no R6.out.ss o (by rw [fnd_nil]; decide))
    rw [if_neg HK.out] at C
    unfold Ob.val at C
    go_wp2_with fail
    refine (C.out).mono ?_; rintro e w7 ⟨rfl, hb⟩
    have R7 := Lib.hid (R6.out.step hb)
    clear hb x0 x1 x2 x3 x4 x5 x6 x7
    obtain ⟨x0, x1, x2, x3, x4, x5, x6, x7⟩ := R7.out.cells
    have C := Lib.hid (ss_alive R7.out.ss o)
    rw [fnd_nil] at C
    unfold Ob.val at C
    go_wp2_with fail
    refine (C.out).mono ?_; rintro e w8 ⟨rfl, hb⟩
    have R8 := Lib.hid (R7.out.step hb)
    clear hb x0 x1 x2 x3 x4 x5 x6 x7
    obtain ⟨x0, x1, x2, x3, x4, x5, x6, x7⟩ := R8.out.cells
    have C := Lib.hid (restore_lost (w := w8) (pv := .pointer none) (.inl rfl) o)
    unfold Ob.val at C
    go_wp2_with fail
    refine (C.out).mono ?_; rintro e w9 ⟨rfl, hb⟩
    have R9 := Lib.hid (R8.out.step hb)
    clear hb x0 x1 x2 x3 x4 x5 x6 x7
    obtain ⟨x0, x1, x2, x3, x4, x5, x6, x7⟩ := R9.out.cells
    have C := Lib.hid (restore_lost R9.out.los o)
    unfold Ob.val at C
    go_wp2_with fail
    refine (C.out).mono ?_; rintro e w10 ⟨rfl, hb⟩
    have R10 := Lib.hid (R9.out.step hb)
    clear hb x0 x1 x2 x3 x4 x5 x6 x7
    obtain ⟨x0, x1, x2, x3, x4, x5, x6, x7⟩ := R10.out.cells
    have C := Lib.hid (depth_lost (w := w10) (pv := .pointer none) (.inl rfl))
    go_wp2_with fail
    refine C.out.mono ?_; rintro e w11 ⟨rfl, rfl⟩
    have C := Lib.hid (depth_lost R10.out.los)
    go_wp2_with fail
    refine C.out.mono ?_; rintro e w11 ⟨rfl, rfl⟩
    have C := Lib.hid (isAlive_lost (w := w11) (pv := .pointer none) (.inl rfl) o)
    unfold Ob.val at C
    go_wp2_with fail
    refine (C.out).mono ?_; rintro e w12 ⟨rfl, hb⟩
    have R12 := Lib.hid (R10.out.step hb)
    clear hb x0 x1 x2 x3 x4 x5 x6 x7
    obtain ⟨x0, x1, x2, x3, x4, x5, x6, x7⟩ := R12.out.cells
    have C := Lib.hid (isAlive_lost R12.out.los o)
    unfold Ob.val at C
    go_wp2_with fail
    refine (C.out).mono ?_; rintro e w13 ⟨rfl, hb⟩
    have R13 := Lib.hid (R12.out.step hb)
    clear hb x0 x1 x2 x3 x4 x5 x6 x7
    obtain ⟨x0, x1, x2, x3, x4, x5, x6, x7⟩ := R13.out.cells
    clear x0 x1 x2 x3 x4 x5 x6 x7
    go_wp2_with fail
    go_ret
    exact ⟨rfl, R13.out.bel⟩
end Go.Proofs.Ytlflkdmbbomjeaa
