/-
  A store without things goes back to a mark, by a contract: Back; and so a save is restored: Restore.
-/
import Derived.Test.YtlflkdmbbomjeaaSavStart
namespace Go.Proofs.Ytlflkdmbbomjeaa
open Go.RowKit
open St
theorem delete_c (w : World) : Calls Try.prog 117 #[.slice none 0 0, .int .i64 0, .int .i64 0] w fun e w' => e = .returned (.slice none 0 0) ∧ w' = w := by
  go_enter Try.func117, Try.ntmps117
  go_wp2_with fail
  go_ret
  exact ⟨rfl, rfl⟩
theorem delete_t (w : World) : Calls Try.prog 118 #[.slice none 0 0, .int .i64 0, .int .i64 0] w fun e w' => e = .returned (.slice none 0 0) ∧ w' = w := by
  go_enter Try.func118, Try.ntmps118
  go_wp2_with fail
  go_ret
  exact ⟨rfl, rfl⟩
theorem knows_nil (w : World) (p : Option Addr) (n : Int) : Calls Try.prog 84 #[.agg #[.pointer p, .int .i64 n], .slice none 0 0] w fun e w' => e = .returned (.bool true) ∧ Below w.heap.size w w' := by
  go_enter Try.func84, Try.ntmps84
  go_wp2_with fail
  go_loopw [11] (fun s11 wr => s11 = .int .i64 0 ∧ wr = w.alloc (.cells #[.pointer p, .int .i64 n] 161)) (fun _ _ => 0)
  case atStart => exact ⟨rfl, rfl⟩
  case round =>
    obtain ⟨rfl, rfl⟩ := hrel
    go_wp2_with fail
    go_ret
    exact ⟨rfl, below1 _ _⟩
theorem own_cut {w : World} {size n m cap g : Nat} {e : TypeId} {xs : List Value} (h : w.ownsRow 0 e size (.slice (some ⟨g, 0, none⟩) n cap) n xs) (hm : m ≤ n) : w.ownsRow 0 e size (.slice (some ⟨g, 0, none⟩) m cap) m (xs.take (m * size)) := by
  obtain ⟨h1, h2⟩ := h
  rcases h2 with ⟨h0, _⟩ | ⟨g', cap', cur, hv, hg, hh, hn, hcap, hsz, htake⟩
  · cases h0
  · cases hv
    have hle : m * size ≤ n * size := Nat.mul_le_mul_right _ hm
    refine ⟨by rw [List.length_take, h1]; omega, .inr ⟨g, cap, cur, rfl, hg, hh, by omega, hcap, hsz, ?_⟩⟩
    rw [← htake, List.take_take, Nat.min_eq_left hle]
theorem flat_take {α : Type} (f : α → List Value) (c : Nat) (hf : ∀ x, (f x).length = c) : ∀ (l : List α) (m : Nat), (l.take m).flatMap f = (l.flatMap f).take (m * c)
  | [], m => by simp
  | x :: l, 0 => by simp
  | x :: l, m + 1 => by
    have e1 : (f x).take ((m + 1) * c) = f x := List.take_of_length_le (by rw [hf, Nat.add_mul]; omega)
    have e2 : (m + 1) * c - c = m * c := by rw [Nat.add_mul]; omega
    rw [List.take_succ_cons, List.flatMap_cons, List.flatMap_cons, flat_take f c hf l m, List.take_append, hf, e1, e2]
theorem take_at {α : Type} {l : List α} {m i : Nat} {x : α} (h : (l.take m)[i]? = some x) : l[i]? = some x := by
  rw [List.getElem?_take] at h
  split at h
  · exact h
  · cases h
theorem rise_take {M : List Mrk} (h : Rise M) (m : Nat) : Rise (M.take m) := fun i j x y hij hx hy => h i j x y hij (take_at hx) (take_at hy)
/-- on the way back: the store's block, and the box of the mark -/
structure BS (w : World) (s b : Nat) (fr : Int) (mv : Value) (K num : Nat) (wx : World) : Prop where
  blk : wx.heap[s]? = some (.cells #[.slice none 0 0, .int .i64 0, .int .i64 fr, mv, .int .i64 K, .slice none 0 0] 110 (0, 0))
  box : wx.heap[b]? = some (.cells #[.int .i64 num, .int .i64 0, .int .i64 fr, .int .i64 0] 136 (0, 0))
  frm : Frm (fun k => k = s) w wx
theorem BS.below {w wx wy : World} {s b K num : Nat} {fr : Int} {mv : Value} (h : BS w s b fr mv K num wx) (hb : Below wx.heap.size wx wy) : BS w s b fr mv K num wy :=
  ⟨(hb.block s (Array.getElem?_eq_some_iff.1 h.blk).1).trans h.blk, (hb.block b (Array.getElem?_eq_some_iff.1 h.box).1).trans h.box, ⟨hb.os.trans h.frm.os, hb.tape.trans h.frm.tape, hb.output.trans h.frm.output, Nat.le_trans h.frm.size hb.size, fun k hk hO => (hb.block k (Nat.lt_of_lt_of_le hk h.frm.size)).trans (h.frm.block k hk hO)⟩⟩
theorem frm_setS {w wx : World} {s j : Nat} (h : Frm (fun k => k = s) w wx) (v : Value) : Frm (fun k => k = s) w (wx.setCell ⟨s, j, none⟩ v) :=
  ⟨h.os, h.tape, h.output, by rw [setC_size]; exact h.size, fun k hk hO => (blk_far (fun e => hO e) _).trans (h.block k hk hO)⟩
theorem BS.set5 {w wx : World} {s b K num : Nat} {fr : Int} {mv : Value} (h : BS w s b fr mv K num wx) : BS w s b fr mv K num (wx.setCell ⟨s, 5, none⟩ (.slice none 0 0)) :=
  ⟨blk_set h.blk 5 _, (blk_far (fun e => blk_ne h.box h.blk (by decide) e) _).trans h.box, frm_setS h.frm _⟩
theorem BS.set0 {w wx : World} {s b K num : Nat} {fr : Int} {mv : Value} (h : BS w s b fr mv K num wx) : BS w s b fr mv K num (wx.setCell ⟨s, 0, none⟩ (.slice none 0 0)) :=
  ⟨blk_set h.blk 0 _, (blk_far (fun e => blk_ne h.box h.blk (by decide) e) _).trans h.box, frm_setS h.frm _⟩
theorem BS.drew {w wx : World} {s b K num : Nat} {fr : Int} {mv : Value} (h : BS w s b fr mv K num wx) : BS w s b fr mv K num wx.drew := ⟨h.blk, h.box, ⟨h.frm.os, h.frm.tape, h.frm.output, h.frm.size, h.frm.block⟩⟩
theorem back_end {w wx : World} {s b K num g n cap i : Nat} {fr : Int} {M : List Mrk} (hM : MkB w s (.slice none 0 0) 0 fr (.slice (some ⟨g, 0, none⟩) n cap) K (.slice none 0 0) M) (hn : n = M.length) (hi : i < M.length) (h : BS w s b fr (.slice (some ⟨g, 0, none⟩) n cap) K num wx) :
    MkB ((wx.setCell ⟨s, 2, none⟩ (.int .i64 fr)).setCell ⟨s, 3, none⟩ (.slice (some ⟨g, 0, none⟩) (i + 1) cap)) s (.slice none 0 0) 0 fr (.slice (some ⟨g, 0, none⟩) (i + 1) cap) K (.slice none 0 0) (M.take (i + 1)) ∧ Frm (fun k => k = s) w ((wx.setCell ⟨s, 2, none⟩ (.int .i64 fr)).setCell ⟨s, 3, none⟩ (.slice (some ⟨g, 0, none⟩) (i + 1) cap)) := by
  have hfr := frm_setS (j := 3) (frm_setS (j := 2) h.frm (.int .i64 fr)) (.slice (some ⟨g, 0, none⟩) (i + 1) cap)
  have hl : (M.take (i + 1)).length = i + 1 := by rw [List.length_take]; omega
  have hgs := own_ne hM.blk hM.row (by decide)
  refine ⟨⟨blk_set (blk_set h.blk 2 _) 3 _, ?_, rise_take hM.rise _, fun x hx => hM.top x (List.mem_of_mem_take hx), by have := hM.few; omega, hM.most⟩, hfr⟩
  rw [hl, flat_take Mrk.cells 4 (fun _ => rfl)]
  have hc := hM.row
  subst hn
  refine owns_same (own_cut hc (by omega)) (fun k hk => ?_)
  have e : g = k := by simpa [isB, Value.ownBlock] using hk
  subst e
  exact hfr.block g (owns_lt hc rfl) (fun e => hgs (by rw [← e]; rfl))
set_option maxRecDepth 100000 in
set_option maxHeartbeats 1000000 in
theorem back0_at {w : World} {s K i : Nat} {fr : Int} {mv : Value} {M : List Mrk} {x : Mrk} (hM : MkB w s (.slice none 0 0) 0 fr mv K (.slice none 0 0) M) (hx : M[i]? = some x) (hp : x.made = 0 ∧ x.free = fr ∧ x.chg = 0) :
    Calls Try.prog 85 #[.pointer (some ⟨s, 0, none⟩), .int .i64 x.num] w fun e w' => e = .returned (.int .i64 0) ∧ ∃ mv', MkB w' s (.slice none 0 0) 0 fr mv' K (.slice none 0 0) (M.take (i + 1)) ∧ (∀ k, isB mv' k → isB mv k) ∧ Frm (fun k => k = s) w w' := by
  have hi : i < M.length := (List.getElem?_eq_some_iff.1 hx).1
  have hmk := markAt_at hM.mv hM.rise x.num
  rw [mkI_of hM.rise hx] at hmk
  simp only [mkV] at hmk
  have HMk := Lib.hid hmk
  have HM := Lib.hid hM
  have HMv := Lib.hid (fun w2 (hb : Below w.heap.size w w2) => hM.mv.below hb)
  have hrow := hM.row
  rcases hrow.2 with ⟨_, h0⟩ | ⟨g, cap, cur, e, _, _, hnc, hcm, _⟩
  · omega
  subst e
  obtain ⟨p1, p2, p3⟩ := hp
  obtain ⟨num, made, free, chg⟩ := x
  simp only at p1 p2 p3
  subst p1 p2 p3
  unfold maxLen at hcm
  have hin : (i : Int) < (M.length : Int) := by omega
  have hic : (i : Int) + 1 ≤ (cap : Int) := by omega
  have HX := Lib.hid hx
  have HD1 := Lib.hid delete_c
  have HD2 := Lib.hid delete_t
  have hfew := hM.few
  clear hmk hM hx hrow
  simp only at HMk
  go_enter Try.func85, Try.ntmps85
  go_wp2_with fail
  refine HMk.out.mono ?_; rintro e w2 ⟨rfl, hb⟩
  have hv2 := HMv.out w2 hb
  have c3 := hv2.c3
  have hM2 := HM.out.below hb
  have c5 : w2.cell? ⟨s, 5, none⟩ = some (.slice none 0 0) := blk_cell hM2.blk 5
  have hslt := hM2.lt
  rcases hv2.row with ⟨h0, _⟩ | ⟨g', cap', e, hg, hc⟩
  · cases h0
  cases e
  have m0 : w2.cell? ⟨g, i * 4, none⟩ = some (.int .i64 num) := hc i 0 _ HX.out (by omega)
  have m1 : w2.cell? ⟨g, i * 4 + 1, none⟩ = some (.int .i64 0) := hc i 1 _ HX.out (by omega)
  have m2 : w2.cell? ⟨g, i * 4 + 2, none⟩ = some (.int .i64 free) := hc i 2 _ HX.out (by omega)
  have m3 : w2.cell? ⟨g, i * 4 + 3, none⟩ = some (.int .i64 0) := hc i 3 _ HX.out (by omega)
  have hbs : BS w s w2.heap.size free (.slice (some ⟨g, 0, none⟩) M.length cap) K num (w2.alloc (.cells #[.int .i64 num, .int .i64 0, .int .i64 free, .int .i64 0] 136)) :=
    ⟨(heap_alloc_old _ _ hslt).trans hM2.blk, heap_alloc_new w2 _, Frm.of_below (bthen hb (below1 _ _))⟩
  have HBS := Lib.hid hbs
  clear hb hv2 hM2 hc hbs HMv HMk
  go_wp2_with fail
  go_loopw [8] (fun s8 wr => s8 = .int .i64 (-1) ∧ wr = w2.alloc (.cells #[.int .i64 num, .int .i64 0, .int .i64 free, .int .i64 0] 136)) (fun _ _ => 0)
  case atStart => exact ⟨rfl, rfl⟩
  case round =>
    obtain ⟨rfl, rfl⟩ := hrel
    go_wp2_with fail
    generalize w2.alloc (.cells #[.int .i64 num, .int .i64 0, .int .i64 free, .int .i64 0] 136) = W at *
    have hBS := HBS.out
    have a5 : W.drew.cell? ⟨s, 5, none⟩ = some (.slice none 0 0) := blk_cell hBS.blk 5
    have a3 : W.drew.cell? ⟨w2.heap.size, 3, none⟩ = some (.int .i64 0) := blk_cell hBS.box 3
    have af : W.drew.frozen? ⟨s, 5, none⟩ = false := blk_free hBS.blk 5
    have e5 : (W.setCell ⟨s, 5, none⟩ (.slice none 0 0)).drew.cell? ⟨s, 5, none⟩ = some (.slice none 0 0) := blk_cell hBS.set5.drew.blk 5
    have e3 : (W.setCell ⟨s, 5, none⟩ (.slice none 0 0)).drew.cell? ⟨w2.heap.size, 3, none⟩ = some (.int .i64 0) := blk_cell hBS.set5.drew.box 3
    have HE := Lib.hid hBS.set5.drew
    clear hBS c3 c5 m0 m1 m2 m3 hg
    go_cut [57] (fun _ wx => BS w s w2.heap.size free (.slice (some ⟨g, 0, none⟩) M.length cap) K num wx)
    case first =>
      go_region_held3 (fun w' => w'.cell? ⟨s, 5, none⟩ = some (.slice none 0 0) ∧ w'.cell? ⟨w2.heap.size, 3, none⟩ = some (.int .i64 0)) (first | with_reducible exact ⟨a5, a3⟩ | with_reducible exact ⟨e5, e3⟩) (first | (go_at_call 117; refine (HD1.out _).mono ?_; rintro e w' ⟨rfl, rfl⟩))
      all_goals go_wp2_with fail
      all_goals go_meet
      all_goals exact HE.out
    case rest =>
    clear a5 a3 af e5 e3 HE HBS
    have a0 : wc.drew.cell? ⟨s, 0, none⟩ = some (.slice none 0 0) := blk_cell hcut.blk 0
    have a1 : wc.drew.cell? ⟨w2.heap.size, 1, none⟩ = some (.int .i64 0) := blk_cell hcut.box 1
    have hU := upTo_at (w := wc.drew) (s := s) (tv := .slice none 0 0) (G := []) ⟨a0, by simp, .inl ⟨rfl, rfl⟩⟩ 0
    rw [show upN 0 ([] : List (Th × Lay)).length = 0 from rfl] at hU
    have HU := Lib.hid hU
    have HBS := Lib.hid hcut
    clear hcut hU
    go_wp2_with fail
    go_cut [74] (fun _ wx => BS w s w2.heap.size free (.slice (some ⟨g, 0, none⟩) M.length cap) K num wx)
    case first =>
      go_region_held3 (fun w' => w'.cell? ⟨s, 0, none⟩ = some (.slice none 0 0) ∧ w'.cell? ⟨w2.heap.size, 1, none⟩ = some (.int .i64 0)) (first | with_reducible exact ⟨a0, a1⟩ | with_reducible exact ⟨e0, e1⟩ | with_reducible exact ⟨q0, q1⟩) (first | (go_at_call 118; refine (HD2.out _).mono ?_; rintro e w' ⟨rfl, rfl⟩) | (go_at_call 119; refine HU.out.mono ?_; rintro e w5 ⟨rfl, hb5⟩; have hB5 := HBS.out.drew.below hb5; have e0 : w5.cell? ⟨s, 0, none⟩ = some (.slice none 0 0) := blk_cell hB5.blk 0; have e1 : w5.cell? ⟨w2.heap.size, 1, none⟩ = some (.int .i64 0) := blk_cell hB5.box 1; have ef := blk_free hB5.blk 0; have q0 : (w5.setCell ⟨s, 0, none⟩ (.slice none 0 0)).cell? ⟨s, 0, none⟩ = some (.slice none 0 0) := blk_cell hB5.set0.blk 0; have q1 : (w5.setCell ⟨s, 0, none⟩ (.slice none 0 0)).cell? ⟨w2.heap.size, 1, none⟩ = some (.int .i64 0) := blk_cell hB5.set0.box 1))
      all_goals go_wp2_with fail
      all_goals go_meet
      all_goals exact hB5.set0
    case rest =>
    clear a0 a1 HU HBS
    have b2 : wc.cell? ⟨w2.heap.size, 2, none⟩ = some (.int .i64 free) := blk_cell hcut.box 2
    have b3 : wc.cell? ⟨s, 3, none⟩ = some (.slice (some ⟨g, 0, none⟩) M.length cap) := blk_cell hcut.blk 3
    have b4 : wc.cell? ⟨s, 2, none⟩ = some (.int .i64 free) := blk_cell hcut.blk 2
    have bf := blk_free hcut.blk
    have HE := Lib.hid (back_end HM.out rfl hi hcut)
    clear hcut
    go_wp2_with fail
    go_ret
    exact ⟨rfl, _, HE.out.1, fun k hk => hk, HE.out.2⟩
end Go.Proofs.Ytlflkdmbbomjeaa
