/-
  A pair is set, the lists behind it.
-/
import Derived.Test.YtlflkdmbbomjeaaStoEnt2
import Derived.Test.YtlflkdmbbomjeaaStoLock
namespace Go.Proofs.Ytlflkdmbbomjeaa
open Go.RowKit
open St
theorem lset8_pairs (x : Ob) : ∀ (ps : List (Ob × Ob)) (i : Nat) (p : Ob × Ob), ps[i]? = some p → lset8 (ps.flatMap pairC) (i * 17 + 8) x = (ps.set i (p.1, x)).flatMap pairC
  | [], i, p, h => by simp at h
  | q :: ps, 0, p, h => by
    simp at h; subst h
    rw [List.flatMap_cons, List.set_cons_zero, List.flatMap_cons]
    unfold pairC
    rw [List.append_assoc, List.append_assoc, show 0 * 17 + 8 = (q.1.cells).length + 0 by simp [Ob.cells], lset8_right, lset8_slot x q.2 _ _ rfl]
  | q :: ps, i + 1, p, h => by
    rw [List.flatMap_cons, show (i + 1) * 17 + 8 = (pairC q).length + (i * 17 + 8) by rw [pair_len]; omega, lset8_right, lset8_pairs x ps i p (by simpa using h), List.set_cons_succ, List.flatMap_cons]
/-- x is the value of the i-th pair -/
def setF (i : Nat) (key x : Ob) (y : Th × Lay) : Th × Lay := (⟨y.1.kind, y.1.bytes, y.1.items, y.1.pairs.set i (key, x), y.1.most, y.1.acc⟩, y.2)
theorem setF_head (i : Nat) (key x : Ob) : SameHead (setF i key x) := ⟨fun _ => rfl, fun _ => rfl, fun _ => rfl, fun _ => rfl⟩
theorem pairs_block {O : Nat → Prop} {w : World} {t : Th} {l : Lay} (h : ThR O w t l) (hn : 0 < t.pairs.length) : ∃ B c cur, l.p = .slice (some ⟨B, 0, none⟩) t.pairs.length c ∧ w.heap[B]? = some (.cells cur 129 (0, 0)) := by
  rcases h.rp.2 with ⟨_, h0⟩ | ⟨g, cap, cur, e, _, hg, _⟩
  · omega
  · exact ⟨g, cap, cur, e, hg⟩
theorem pairs_slot {O : Nat → Prop} {w : World} {t : Th} {l : Lay} {B c i : Nat} (h : ThR O w t l) (e : l.p = .slice (some ⟨B, 0, none⟩) t.pairs.length c) (hp : i < t.pairs.length) : Slot w B (i * 17 + 8) := by
  have hr := h.rp
  rw [e] at hr
  have hx : t.pairs[i]? = some t.pairs[i] := List.getElem?_eq_getElem hp
  refine ⟨owns_lt hr rfl, fun j hj => ?_, ?_, fun j => hr.frozenAt j⟩
  · rw [Nat.add_assoc, hr.cellAt (i * 17 + (8 + j)) (by omega), pairs_at _ i (8 + j) _ hx (by omega)]
    exact ⟨(pairC t.pairs[i])[8 + j]'(by rw [pair_len]; omega), List.getElem?_eq_getElem _⟩
  · rw [Nat.add_assoc, hr.cellAt (i * 17 + (8 + 8)) (by omega), pairs_at _ i (8 + 8) _ hx (by omega)]; rfl
theorem rep_set {O : Nat → Prop} {w : World} {s t B c i : Nat} {fr : Int} {G : List (Th × Lay)} {y : Th × Lay} {key : Ob} {p : Ob × Ob} (h : Rep O w s fr G) (hy : G[t]? = some y) (e : y.2.p = .slice (some ⟨B, 0, none⟩) y.1.pairs.length c) (hp : y.1.pairs[i]? = some p) (hk : p.1 = key) (x : Ob) : Rep O (set8 w B (i * 17 + 8) x) s fr (G.modify t (setF i key x)) := by
  have hr := h.row t y hy
  have hi : i < y.1.pairs.length := (List.getElem?_eq_some_iff.1 hp).1
  obtain ⟨B', c', cur, e', hB⟩ := pairs_block hr (by omega)
  rw [e] at e'
  cases e'
  have hrp := hr.rp
  rw [e] at hrp
  have nb : ¬ isB y.2.b B := fun k => own_ne hB hr.rb (by decide) k.symm
  have ni : ¬ isB y.2.i B := fun k => own_ne hB hr.ri (by decide) k.symm
  have hfar : ∀ k, k ≠ B → (set8 w B (i * 17 + 8) x).heap[k]? = w.heap[k]? := fun k hk => set8_far hk
  refine rep_modify h (setF_head i key x) hy hB ⟨by decide, by decide⟩ hfar (set8_size _ _ _ _) (.inr (.inr (by rw [e]; rfl))) ⟨fun k => absurd k nb, fun k => absurd k ni, fun _ => rfl⟩ ?_
  refine ⟨owns_same hr.rb (fun k hk => hfar k (fun e1 => nb (e1 ▸ hk))), owns_same hr.ri (fun k hk => hfar k (fun e1 => ni (e1 ▸ hk))), ?_, hr.ob, hr.oi, hr.op, hr.nb, hr.ni, by simpa [setF] using hr.np, by simpa [setF] using hr.nm⟩
  have := set8_own hrp (i * 17 + 8) x
  rw [lset8_pairs x _ i p hp, hk] at this
  simp only [setF, List.length_set]
  rw [e]; exact this
/-- a pair comes behind the others -/
def addF (key x : Ob) (v : Value) (y : Th × Lay) : Th × Lay := (⟨y.1.kind, y.1.bytes, y.1.items, y.1.pairs ++ [(key, x)], y.1.most, y.1.acc⟩, ⟨y.2.b, y.2.i, v⟩)
theorem thsC_add (key x : Ob) (v : Value) : ∀ (G : List (Th × Lay)) (r t : Nat) (y : Th × Lay), G[t]? = some y → thsC r (G.modify t (addF key x v)) = (thsC r G).set (t * 7 + 4) v
  | [], r, t, y, h => by simp at h
  | z :: G, r, 0, y, _ => by
    rw [List.modify_zero_cons, thsC, thsC, List.set_append_left _ _ (by simp [thC])]
    rfl
  | z :: G, r, t + 1, y, h => by
    rw [List.modify_succ_cons, thsC, thsC, thsC_add key x v G (r + 1) t y (by simpa using h), List.set_append_right _ _ (by simp [thC]; omega)]
    congr 2
    simp [thC]; omega
/-- what an append to a dictionary's pairs and the store of it leave -/
theorem rep_add {O : Nat → Prop} {w w1 : World} {s t gg cap : Nat} {fr : Int} {G : List (Th × Lay)} {tv : Value} {y : Th × Lay} {key x : Ob} (h : Rep O w s fr G) (hv : Vw w s tv G) (hy : G[t]? = some y) (hm : (y.1.pairs.length : Int) < y.1.most)
    (hown : w1.ownsRow 0 129 17 (.slice (some ⟨gg, 0, none⟩) (y.1.pairs.length + 1) cap) (y.1.pairs.length + 1) (y.1.pairs.flatMap pairC ++ pairC (key, x))) (hgr : ∀ k, k < w.heap.size → some k ≠ y.2.p.ownBlock → w1.heap[k]? = w.heap[k]?) (hsz : w.heap.size ≤ w1.heap.size) (hat : y.2.p.ownBlock = some gg ∨ w.heap.size ≤ gg) (hlt : gg < w1.heap.size) :
    Rep (Up O w w1) (w1.setCell ⟨blkOf tv, t * 7 + 4, none⟩ (.slice (some ⟨gg, 0, none⟩) (y.1.pairs.length + 1) cap)) s fr (G.modify t (addF key x (.slice (some ⟨gg, 0, none⟩) (y.1.pairs.length + 1) cap))) ∧ O (blkOf tv) ∧ blkOf tv ≠ gg ∧ some (blkOf tv) ≠ y.2.p.ownBlock := by
  obtain ⟨tv2, am, cm, ac, cc, hb, ht, ho⟩ := h.blk
  have e0 : tv2 = tv := by have := blk_cell hb 0; rw [hv.c0] at this; simpa using this.symm
  subst e0
  have hlt0 : t < G.length := (List.getElem?_eq_some_iff.1 hy).1
  rcases ht.2 with ⟨_, hn⟩ | ⟨g, capT, cur, rfl, _, hg, _⟩
  · omega
  show Rep (Up O w w1) (w1.setCell ⟨g, t * 7 + 4, none⟩ _) s fr _ ∧ O g ∧ g ≠ gg ∧ some g ≠ y.2.p.ownBlock
  have hOg : O g := ho g rfl
  have hr := h.row t y hy
  have hgp : some g ≠ y.2.p.ownBlock := own_ne hg hr.rp (by decide)
  have hsp : some s ≠ y.2.p.ownBlock := own_ne hb hr.rp (by decide)
  have hggl : g < w.heap.size := (Array.getElem?_eq_some_iff.1 hg).1
  have hg1 : w1.heap[g]? = some (.cells cur 121 (0, 0)) := (hgr g hggl hgp).trans hg
  have hggne : g ≠ gg := fun e => own_other hown hg1 (by decide) e.symm
  have hsg : s ≠ g := fun e1 => by subst e1; rw [hb] at hg; cases hg
  have hfar : ∀ k, k ≠ g → (w1.setCell ⟨g, t * 7 + 4, none⟩ (.slice (some ⟨gg, 0, none⟩) (y.1.pairs.length + 1) cap)).heap[k]? = w1.heap[k]? := fun k hk => blk_far hk _
  have ht1 : w1.ownsRow 0 121 7 (.slice (some ⟨g, 0, none⟩) G.length capT) G.length (thsC 0 G) := owns_same ht (fun k hk => by
    have : g = k := by simpa [isB, Value.ownBlock] using hk
    subst this; exact hgr g hggl hgp)
  have hst := own_stored ht1 (t * 7 + 4) (.slice (some ⟨gg, 0, none⟩) (y.1.pairs.length + 1) cap)
  have keep : ∀ {n size : Nat} {e : TypeId} {v : Value} {xs : List Value}, w.ownsRow 0 e size v n xs → 121 ≠ e → (∀ k, isB v k → some k ≠ y.2.p.ownBlock) → (w1.setCell ⟨g, t * 7 + 4, none⟩ (.slice (some ⟨gg, 0, none⟩) (y.1.pairs.length + 1) cap)).ownsRow 0 e size v n xs := fun hro hne hdis =>
    owns_same hro (fun k hk => (hfar k (fun e1 => own_ne hg hro hne (by rw [← e1]; exact hk.symm))).trans (hgr k (owns_lt hro hk) (hdis k hk)))
  have pty : ∀ {n size : Nat} {e : TypeId} {v : Value} {xs : List Value}, w.ownsRow 0 e size v n xs → 129 ≠ e → ∀ k, isB v k → some k ≠ y.2.p.ownBlock := fun hro hne k hk e1 => by
    rcases hr.rp.2 with ⟨e0, _⟩ | ⟨q, cq, cu, e0, _, hq, _⟩
    · rw [e0] at e1; cases e1
    · rw [e0] at e1
      have : k = q := by simpa [Value.ownBlock] using e1
      subst this
      exact own_ne hq hro hne hk.symm
  have lenm : (G.modify t (addF key x (.slice (some ⟨gg, 0, none⟩) (y.1.pairs.length + 1) cap))).length = G.length := List.length_modify _ _ _
  refine ⟨⟨.inl h.os, fun k hk => ?_, ⟨.slice (some ⟨g, 0, none⟩) G.length capT, am, cm, ac, cc, ?_, ?_, fun k hk => .inl (ho k hk)⟩, fun j z hz => ?_, fun a b z z' hab hz hz' => ?_, h.fr0, by rw [lenm]; exact h.few⟩, hOg, hggne, hgp⟩
  · rw [setC_size]
    rcases hk with e | e
    · have := h.olt k e; omega
    · exact e.2
  · rw [hfar s hsg, hgr s h.lt hsp, lenm]; exact hb
  · rw [lenm, thsC_add key x _ G 0 t y hy]; exact hst
  · rcases modify_at hz with ⟨rfl, y', hy', rfl⟩ | ⟨hj, hz0⟩
    · rw [hy] at hy'; cases hy'
      refine ⟨keep hr.rb (by decide) (pty hr.rb (by decide)), keep hr.ri (by decide) (pty hr.ri (by decide)), ?_, fun k hk => .inl (hr.ob k hk), fun k hk => .inl (hr.oi k hk), fun k hk => ?_, hr.nb, hr.ni, ?_, ?_⟩
      · simp only [addF, List.length_append, List.length_cons, List.length_nil, Nat.zero_add, List.flatMap_append, List.flatMap_cons, List.flatMap_nil, List.append_nil]
        exact owns_same hown (fun k hk => hfar k (fun e1 => by
          have : gg = k := by simpa [isB, Value.ownBlock] using hk
          omega))
      · have : gg = k := by simpa [addF, isB, Value.ownBlock] using hk
        subst this
        rcases hat with e | e
        · exact .inl (hr.op gg e)
        · exact .inr ⟨e, hlt⟩
      · have := hr.nm; simp only [addF, List.length_append, List.length_cons, List.length_nil]; omega
      · have := hr.nm; simp only [addF, List.length_append, List.length_cons, List.length_nil]; omega
    · have hrz := h.row j z hz0
      have hap := h.apart j t z y hj hz0 hy
      exact ⟨keep hrz.rb (by decide) (pty hrz.rb (by decide)), keep hrz.ri (by decide) (pty hrz.ri (by decide)), keep hrz.rp (by decide) (fun k hk e1 => (hap k).2.2 hk e1.symm), fun k hk => .inl (hrz.ob k hk), fun k hk => .inl (hrz.oi k hk), fun k hk => .inl (hrz.op k hk), hrz.nb, hrz.ni, hrz.np, hrz.nm⟩
  · have key2 : ∀ (j : Nat) (z : Th × Lay), (G.modify t (addF key x (.slice (some ⟨gg, 0, none⟩) (y.1.pairs.length + 1) cap)))[j]? = some z → ∃ z0, G[j]? = some z0 ∧ z.2.b = z0.2.b ∧ z.2.i = z0.2.i ∧ (∀ k, isB z.2.p k → isB z0.2.p k ∨ (j = t ∧ k = gg ∧ w.heap.size ≤ gg)) := fun j z hz => by
      rcases modify_at hz with ⟨rfl, y', hy', rfl⟩ | ⟨_, hz0⟩
      · rw [hy] at hy'; cases hy'
        refine ⟨y, hy, rfl, rfl, fun k hk => ?_⟩
        have : gg = k := by simpa [addF, isB, Value.ownBlock] using hk
        subst this
        rcases hat with e | e
        · exact .inl e
        · exact .inr ⟨rfl, rfl, e⟩
      · exact ⟨z, hz0, rfl, rfl, fun k hk => .inl hk⟩
    obtain ⟨z0, hz0, eb, ei, ep⟩ := key2 a z hz
    obtain ⟨z0', hz0', eb', ei', ep'⟩ := key2 b z' hz'
    have hap := h.apart a b z0 z0' hab hz0 hz0'
    intro k
    rw [eb, eb', ei, ei']
    refine ⟨(hap k).1, (hap k).2.1, fun h1 h2 => ?_⟩
    rcases ep k h1 with p1 | ⟨ja, ka, la⟩
    · rcases ep' k h2 with p2 | ⟨jb, kb, lb⟩
      · exact (hap k).2.2 p1 p2
      · have := (h.row a z0 hz0).lt (.inr (.inr p1)); omega
    · rcases ep' k h2 with p2 | ⟨jb, kb, lb⟩
      · have := (h.row b z0' hz0').lt (.inr (.inr p2)); omega
      · omega
end Go.Proofs.Ytlflkdmbbomjeaa
