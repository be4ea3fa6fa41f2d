/-
  Of dictionaries, by contracts: Size, Access, note, Lock.
-/
import Derived.Test.YtfilbfenpdaahaaGreatDoorStoPut3
import Derived.Test.YtfilbfenpdaahaaGreatDoorStoItems2
namespace Go.Proofs.YtfilbfenpdaahaaGreatDoor
open Go.RowKit
open St
theorem vw_cells {w : World} {s t : Nat} {tv : Value} {G : List (Th × Lay)} {y : Th × Lay} (h : Vw w s tv G) (hy : G[t]? = some y) :
    w.cell? ⟨blkOf tv, t * 7, none⟩ = some (.int .i64 (t + 1 : Nat)) ∧ w.cell? ⟨blkOf tv, t * 7 + 1, none⟩ = some (.int .i64 y.1.kind) ∧ w.cell? ⟨blkOf tv, t * 7 + 2, none⟩ = some y.2.b ∧ w.cell? ⟨blkOf tv, t * 7 + 3, none⟩ = some y.2.i ∧ w.cell? ⟨blkOf tv, t * 7 + 4, none⟩ = some y.2.p ∧ w.cell? ⟨blkOf tv, t * 7 + 5, none⟩ = some (.int .i64 y.1.most) ∧ w.cell? ⟨blkOf tv, t * 7 + 6, none⟩ = some (.int .i64 y.1.acc) := by
  rcases h.row with ⟨_, rfl⟩ | ⟨g, cap, rfl, _, hc⟩
  · simp at hy
  · exact thC_len hy hc
/-- the thing of a dictionary's object -/
def dicT (G : List (Th × Lay)) (o : Ob) : Option Th := match tld G o 8 with
  | none => none
  | some t => G[t]?.map (·.1)
theorem dicT_some {G : List (Th × Lay)} {o : Ob} {t : Nat} {y : Th × Lay} (h : tld G o 8 = some t) (hy : G[t]? = some y) : dicT G o = some y.1 := by unfold dicT; rw [h]; simp [hy]
theorem dicT_none {G : List (Th × Lay)} {o : Ob} (h : tld G o 8 = none) : dicT G o = none := by unfold dicT; rw [h]
def sizeV (d : Option Th) : Value := match d with
  | none => .tuple #[.int .i64 0, .int .i64 0, .int .i64 21]
  | some y => .tuple #[.int .i64 y.pairs.length, .int .i64 y.most, .int .i64 0]
def accV (d : Option Th) : Int := match d with
  | none => 0
  | some y => y.acc
set_option maxRecDepth 100000 in
set_option maxHeartbeats 1000000 in
theorem access_at {O : Nat → Prop} {w : World} {s : Nat} {fr : Int} {G : List (Th × Lay)} (h : Rep O w s fr G) (o : Ob) :
    Calls Tryz.prog 30 #[.pointer (some ⟨s, 0, none⟩), o.val] w fun e w' => e = .returned (.int .i64 (accV (dicT G o))) ∧ Below w.heap.size w w' := by
  have h2 := h.below (below1 w (obC o))
  obtain ⟨tv, hv⟩ := Rep.vw h2
  have HT := Lib.hid (told_rep h2 hv o 8)
  have HV := Lib.hid (fun w3 hb => hv.below (w' := w3) hb)
  unfold obC at HT HV
  unfold Ob.val at HT ⊢
  cases ht : tld G o 8 with
  | none =>
    rw [ht] at HT
    rw [dicT_none ht]
    simp only [thP, Option.map_none] at HT
    clear ht h h2 hv HV
    go_enter Tryz.func30, Tryz.ntmps30
    go_wp2_with fail
    refine HT.out.mono ?_; rintro e w3 ⟨rfl, hb⟩
    have HB := Lib.hid (bthen (below1 w _) hb)
    clear hb
    go_wp2_with fail
    go_ret
    exact ⟨rfl, HB.out⟩
  | some t =>
    rw [ht] at HT
    simp only [thP, Option.map_some] at HT
    obtain ⟨_, _, _, y, hy, _⟩ := tld_bounds h ht
    rw [dicT_some ht hy]
    have HV2 := Lib.hid (fun w3 hb => vw_cells (HV.out w3 hb) hy)
    clear ht h h2 hv HV hy
    go_enter Tryz.func30, Tryz.ntmps30
    go_wp2_with fail
    refine HT.out.mono ?_; rintro e w3 ⟨rfl, hb⟩
    obtain ⟨_, _, _, _, _, _, c6⟩ := HV2.out w3 hb
    have HB := Lib.hid (bthen (below1 w _) hb)
    clear hb
    go_wp2_with fail
    go_ret
    exact ⟨rfl, HB.out⟩
theorem note_end {w w2 : World} {o : Obj} {q : Nat} (h : Below ((w.alloc o).drewN q).heap.size ((w.alloc o).drewN q) w2) : Below w.heap.size w w2 := bthen (below_draw (below1 w o) q) h
theorem note_cell {w w2 : World} {o : Obj} {q : Nat} {a : Addr} {v : Value} (h : Below ((w.alloc o).drewN q).heap.size ((w.alloc o).drewN q) w2) (hc : w.cell? a = some v) : w2.cell? a = some v :=
  ((note_end h).cell (World.block_lt_of_cell? w _ hc)).trans hc
/-- without a mark nothing is noted -/
theorem note_at {O : Nat → Prop} {w : World} {s g t : Nat} {fr : Int} {G : List (Th × Lay)} (h : Rep O w s fr G) (hc : w.cell? ⟨g, t * 7, none⟩ = some (.int .i64 (t + 1 : Nat))) (chs : Array Value) :
    Calls Tryz.prog 51 #[.pointer (some ⟨s, 0, none⟩), .pointer (some ⟨g, t * 7, none⟩), .agg chs] w fun e w' => e = .returned (.tuple #[]) ∧ Below w.heap.size w w' := by
  have h1 := h.below (below1 w (.cells chs 114))
  have HL := Lib.hid (fun q => last_at (w := (w.alloc (.cells chs 114)).drewN q) (h1.below (below_draw (Below.refl _ _) q)))
  have hlt := World.block_lt_of_cell? w _ hc
  have hfd : ∀ w, (Instr.field 126 (.agg #[.int .i64 0, .int .i64 0, .int .i64 0, .int .i64 0]) 1).run Tryz.prog w = .ok (.int .i64 0) w := fun w => (mark_field w _ _ _ _).2
  have hgt : decide ((0 : Int) < (t : Int) + 1) = true := decide_eq_true (by omega)
  clear h h1
  go_enter Tryz.func51, Tryz.ntmps51
  go_wp2_with fail
  go_region_with (first | (go_at_call 67; refine (HL.out 1).mono ?_; rintro e w2 ⟨rfl, hb⟩; have hc2 := note_cell hb hc))
  all_goals go_wp2_with fail
  all_goals exact bodyPost_ret (v := .tuple #[]) (by simp [results, Tryz.results51, go_sem]) rfl ⟨rfl, note_end hb⟩
/-- a dictionary is locked -/
def lockG (G : List (Th × Lay)) (t : Nat) (a : Int) : List (Th × Lay) := G.modify t fun y => (⟨y.1.kind, y.1.bytes, y.1.items, y.1.pairs, y.1.most, a⟩, y.2)
theorem thsC_lock (a : Int) : ∀ (G : List (Th × Lay)) (r t : Nat) (y : Th × Lay), G[t]? = some y → thsC r (lockG G t a) = (thsC r G).set (t * 7 + 6) (.int .i64 a)
  | [], r, t, y, h => by simp at h
  | x :: G, r, 0, y, _ => by
    unfold lockG
    rw [List.modify_zero_cons, thsC, thsC, List.set_append_left _ _ (by simp [thC])]
    rfl
  | x :: G, r, t + 1, y, h => by
    have ih := thsC_lock a G (r + 1) t y (by simpa using h)
    unfold lockG at ih ⊢
    rw [List.modify_succ_cons, thsC, thsC, ih, List.set_append_right _ _ (by simp [thC]; omega)]
    congr 2
    simp [thC]; omega
theorem rep_lock {O : Nat → Prop} {w : World} {s t : Nat} {fr a : Int} {G : List (Th × Lay)} {tv : Value} {y : Th × Lay} (h : Rep O w s fr G) (hv : Vw w s tv G) (hy : G[t]? = some y) : Rep O (w.setCell ⟨blkOf tv, t * 7 + 6, none⟩ (.int .i64 a)) s fr (lockG G t a) ∧ O (blkOf tv) := by
  obtain ⟨tv2, am, cm, ac, cc, hb, ht, ho⟩ := h.blk
  have e0 : tv2 = tv := by have := blk_cell hb 0; rw [hv.c0] at this; simpa using this.symm
  subst e0
  have hlt : t < G.length := (List.getElem?_eq_some_iff.1 hy).1
  rcases ht.2 with ⟨_, hn⟩ | ⟨g, cap, cur, rfl, _, hg, _⟩
  · omega
  have hOg : O g := ho g rfl
  have hst := own_stored ht (t * 7 + 6) (.int .i64 a)
  have hfar : ∀ k, k ≠ g → (w.setCell ⟨g, t * 7 + 6, none⟩ (.int .i64 a)).heap[k]? = w.heap[k]? := fun k hk => blk_far hk _
  have hk : ∀ {n size : Nat} {e : TypeId} {v : Value} {xs : List Value}, w.ownsRow 0 e size v n xs → 69 ≠ e → (w.setCell ⟨g, t * 7 + 6, none⟩ (.int .i64 a)).ownsRow 0 e size v n xs := fun hr hne =>
    owns_same hr (fun k hk => hfar k (fun e1 => own_ne hg hr hne (by rw [← e1]; exact hk.symm)))
  have hsg : s ≠ g := fun e1 => by subst e1; rw [hb] at hg; cases hg
  refine ⟨⟨h.os, fun k ho => by rw [setC_size]; exact h.olt k ho, ⟨_, am, cm, ac, cc, ?_, ?_, ho⟩, fun i x hx => ?_, fun i j x z hij hx hz => ?_, h.fr0, ?_⟩, hOg⟩
  · rw [show (blkOf (.slice (some ⟨g, 0, none⟩) G.length cap)) = g from rfl, hfar s hsg]; unfold lockG; rw [List.length_modify]; exact hb
  · have : (lockG G t a).length = G.length := by unfold lockG; rw [List.length_modify]
    rw [thsC_lock a G 0 t y hy, this]; exact hst
  · unfold lockG at hx
    rcases modify_at hx with ⟨rfl, y', hy', rfl⟩ | ⟨_, hx'⟩
    · have hr := h.row i y' hy'
      exact ⟨hk hr.rb (by decide), hk hr.ri (by decide), hk hr.rp (by decide), hr.ob, hr.oi, hr.op, hr.nb, hr.ni, hr.np, hr.nm⟩
    · have hr := h.row i x hx'
      exact ⟨hk hr.rb (by decide), hk hr.ri (by decide), hk hr.rp (by decide), hr.ob, hr.oi, hr.op, hr.nb, hr.ni, hr.np, hr.nm⟩
  · have key : ∀ (j : Nat) (x : Th × Lay), (lockG G t a)[j]? = some x → ∃ x', G[j]? = some x' ∧ x'.2 = x.2 := fun j x hx => by
      unfold lockG at hx
      rcases modify_at hx with ⟨rfl, y', hy', rfl⟩ | ⟨_, hx'⟩
      · exact ⟨y', hy', rfl⟩
      · exact ⟨x, hx', rfl⟩
    obtain ⟨x', hx', ex⟩ := key i x hx
    obtain ⟨z', hz', ez⟩ := key j z hz
    rw [← ex, ← ez]
    exact h.apart i j x' z' hij hx' hz'
  · unfold lockG; rw [List.length_modify]; exact h.few
end Go.Proofs.YtfilbfenpdaahaaGreatDoor
