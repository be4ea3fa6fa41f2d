/-
  A pair is taken away, by a contract: Drop.
-/
import Derived.Test.YtlflkdmbbomjeaaStoDel
import Derived.Test.YtlflkdmbbomjeaaStoSet2
namespace Go.Proofs.Ytlflkdmbbomjeaa
open Go.RowKit
open St
/-- the pairs are others -/
def prsF (ps : List (Ob × Ob)) (v : Value) (y : Th × Lay) : Th × Lay := (⟨y.1.kind, y.1.bytes, y.1.items, ps, y.1.most, y.1.acc⟩, ⟨y.2.b, y.2.i, v⟩)
theorem thsC_prs (ps : List (Ob × Ob)) (v : Value) : ∀ (G : List (Th × Lay)) (r t : Nat) (y : Th × Lay), G[t]? = some y → thsC r (G.modify t (prsF ps v)) = (thsC r G).set (t * 7 + 4) v
  | [], r, t, y, h => by simp at h
  | z :: G, r, 0, y, _ => by
    rw [List.modify_zero_cons, thsC, thsC, List.set_append_left _ _ (by simp [thC])]
    rfl
  | z :: G, r, t + 1, y, h => by
    rw [List.modify_succ_cons, thsC, thsC, thsC_prs ps v G (r + 1) t y (by simpa using h), List.set_append_right _ _ (by simp [thC]; omega)]
    congr 2
    simp [thC]; omega
/-- what other pairs of a dictionary and the store of their slice leave -/
theorem rep_prs {O : Nat → Prop} {w w1 : World} {s t gg cap : Nat} {fr : Int} {G : List (Th × Lay)} {tv : Value} {y : Th × Lay} {ps : List (Ob × Ob)} (h : Rep O w s fr G) (hv : Vw w s tv G) (hy : G[t]? = some y) (hm : (ps.length : Int) ≤ y.1.most)
    (hown : w1.ownsRow 0 129 17 (.slice (some ⟨gg, 0, none⟩) ps.length cap) ps.length (ps.flatMap pairC)) (hgr : ∀ k, k < w.heap.size → some k ≠ y.2.p.ownBlock → w1.heap[k]? = w.heap[k]?) (hsz : w.heap.size ≤ w1.heap.size) (hat : y.2.p.ownBlock = some gg ∨ w.heap.size ≤ gg) (hlt : gg < w1.heap.size) :
    Rep (Up O w w1) (w1.setCell ⟨blkOf tv, t * 7 + 4, none⟩ (.slice (some ⟨gg, 0, none⟩) ps.length cap)) s fr (G.modify t (prsF ps (.slice (some ⟨gg, 0, none⟩) ps.length cap))) ∧ O (blkOf tv) ∧ blkOf tv ≠ gg ∧ some (blkOf tv) ≠ y.2.p.ownBlock := by
  obtain ⟨tv2, am, cm, ac, cc, hb, ht, ho⟩ := h.blk
  have e0 : tv2 = tv := by have := blk_cell hb 0; rw [hv.c0] at this; simpa using this.symm
  subst e0
  have hlt0 : t < G.length := (List.getElem?_eq_some_iff.1 hy).1
  rcases ht.2 with ⟨_, hn⟩ | ⟨g, capT, cur, rfl, _, hg, _⟩
  · omega
  show Rep (Up O w w1) (w1.setCell ⟨g, t * 7 + 4, none⟩ _) s fr _ ∧ O g ∧ g ≠ gg ∧ some g ≠ y.2.p.ownBlock
  have hOg : O g := ho g rfl
  have hr := h.row t y hy
  have hgp : some g ≠ y.2.p.ownBlock := own_ne hg hr.rp (by decide)
  have hsp : some s ≠ y.2.p.ownBlock := own_ne hb hr.rp (by decide)
  have hggl : g < w.heap.size := (Array.getElem?_eq_some_iff.1 hg).1
  have hg1 : w1.heap[g]? = some (.cells cur 121 (0, 0)) := (hgr g hggl hgp).trans hg
  have hggne : g ≠ gg := fun e => own_other hown hg1 (by decide) e.symm
  have hsg : s ≠ g := fun e1 => by subst e1; rw [hb] at hg; cases hg
  have hfar : ∀ k, k ≠ g → (w1.setCell ⟨g, t * 7 + 4, none⟩ (.slice (some ⟨gg, 0, none⟩) ps.length cap)).heap[k]? = w1.heap[k]? := fun k hk => blk_far hk _
  have ht1 : w1.ownsRow 0 121 7 (.slice (some ⟨g, 0, none⟩) G.length capT) G.length (thsC 0 G) := owns_same ht (fun k hk => by
    have : g = k := by simpa [isB, Value.ownBlock] using hk
    subst this; exact hgr g hggl hgp)
  have hst := own_stored ht1 (t * 7 + 4) (.slice (some ⟨gg, 0, none⟩) ps.length cap)
  have keep : ∀ {n size : Nat} {e : TypeId} {v : Value} {xs : List Value}, w.ownsRow 0 e size v n xs → 121 ≠ e → (∀ k, isB v k → some k ≠ y.2.p.ownBlock) → (w1.setCell ⟨g, t * 7 + 4, none⟩ (.slice (some ⟨gg, 0, none⟩) ps.length cap)).ownsRow 0 e size v n xs := fun hro hne hdis =>
    owns_same hro (fun k hk => (hfar k (fun e1 => own_ne hg hro hne (by rw [← e1]; exact hk.symm))).trans (hgr k (owns_lt hro hk) (hdis k hk)))
  have pty : ∀ {n size : Nat} {e : TypeId} {v : Value} {xs : List Value}, w.ownsRow 0 e size v n xs → 129 ≠ e → ∀ k, isB v k → some k ≠ y.2.p.ownBlock := fun hro hne k hk e1 => by
    rcases hr.rp.2 with ⟨e0, _⟩ | ⟨q, cq, cu, e0, _, hq, _⟩
    · rw [e0] at e1; cases e1
    · rw [e0] at e1
      have : k = q := by simpa [Value.ownBlock] using e1
      subst this
      exact own_ne hq hro hne hk.symm
  have lenm : (G.modify t (prsF ps (.slice (some ⟨gg, 0, none⟩) ps.length cap))).length = G.length := List.length_modify _ _ _
  refine ⟨⟨.inl h.os, fun k hk => ?_, ⟨.slice (some ⟨g, 0, none⟩) G.length capT, am, cm, ac, cc, ?_, ?_, fun k hk => .inl (ho k hk)⟩, fun j z hz => ?_, fun a b z z' hab hz hz' => ?_, h.fr0, by rw [lenm]; exact h.few⟩, hOg, hggne, hgp⟩
  · rw [setC_size]
    rcases hk with e | e
    · have := h.olt k e; omega
    · exact e.2
  · rw [hfar s hsg, hgr s h.lt hsp, lenm]; exact hb
  · rw [lenm, thsC_prs ps _ G 0 t y hy]; exact hst
  · rcases modify_at hz with ⟨rfl, y', hy', rfl⟩ | ⟨hj, hz0⟩
    · rw [hy] at hy'; cases hy'
      refine ⟨keep hr.rb (by decide) (pty hr.rb (by decide)), keep hr.ri (by decide) (pty hr.ri (by decide)), ?_, fun k hk => .inl (hr.ob k hk), fun k hk => .inl (hr.oi k hk), fun k hk => ?_, hr.nb, hr.ni, ?_, ?_⟩
      · simp only [prsF]
        exact owns_same hown (fun k hk => hfar k (fun e1 => by
          have : gg = k := by simpa [isB, Value.ownBlock] using hk
          omega))
      · have : gg = k := by simpa [prsF, isB, Value.ownBlock] using hk
        subst this
        rcases hat with e | e
        · exact .inl (hr.op gg e)
        · exact .inr ⟨e, hlt⟩
      · have := hr.nm; simp only [prsF]; omega
      · have := hr.nm; simp only [prsF]; omega
    · have hrz := h.row j z hz0
      have hap := h.apart j t z y hj hz0 hy
      exact ⟨keep hrz.rb (by decide) (pty hrz.rb (by decide)), keep hrz.ri (by decide) (pty hrz.ri (by decide)), keep hrz.rp (by decide) (fun k hk e1 => (hap k).2.2 hk e1.symm), fun k hk => .inl (hrz.ob k hk), fun k hk => .inl (hrz.oi k hk), fun k hk => .inl (hrz.op k hk), hrz.nb, hrz.ni, hrz.np, hrz.nm⟩
  · have key2 : ∀ (j : Nat) (z : Th × Lay), (G.modify t (prsF ps (.slice (some ⟨gg, 0, none⟩) ps.length cap)))[j]? = some z → ∃ z0, G[j]? = some z0 ∧ z.2.b = z0.2.b ∧ z.2.i = z0.2.i ∧ (∀ k, isB z.2.p k → isB z0.2.p k ∨ (j = t ∧ k = gg ∧ w.heap.size ≤ gg)) := fun j z hz => by
      rcases modify_at hz with ⟨rfl, y', hy', rfl⟩ | ⟨_, hz0⟩
      · rw [hy] at hy'; cases hy'
        refine ⟨y, hy, rfl, rfl, fun k hk => ?_⟩
        have : gg = k := by simpa [prsF, isB, Value.ownBlock] using hk
        subst this
        rcases hat with e | e
        · exact .inl e
        · exact .inr ⟨rfl, rfl, e⟩
      · exact ⟨z, hz0, rfl, rfl, fun k hk => .inl hk⟩
    obtain ⟨z0, hz0, eb, ei, ep⟩ := key2 a z hz
    obtain ⟨z0', hz0', eb', ei', ep'⟩ := key2 b z' hz'
    have hap := h.apart a b z0 z0' hab hz0 hz0'
    intro k
    rw [eb, eb', ei, ei']
    refine ⟨(hap k).1, (hap k).2.1, fun h1 h2 => ?_⟩
    rcases ep k h1 with p1 | ⟨ja, ka, la⟩
    · rcases ep' k h2 with p2 | ⟨jb, kb, lb⟩
      · exact (hap k).2.2 p1 p2
      · have := (h.row a z0 hz0).lt (.inr (.inr p1)); omega
    · rcases ep' k h2 with p2 | ⟨jb, kb, lb⟩
      · have := (h.row b z0' hz0').lt (.inr (.inr p2)); omega
      · omega
def dropE (G : List (Th × Lay)) (d k : Ob) : Int := match tld G d 8 with
  | none => 21
  | some t => if (keyR G k).2 = 0 then (match G[t]? with
      | none => 21
      | some y => match idx y.1.pairs (keyR G k).1 with
        | some _ => 0
        | none => 17) else (keyR G k).2
def dropR (G : List (Th × Lay)) (d k : Ob) (v : Value) : List (Th × Lay) := match tld G d 8 with
  | none => G
  | some t => match G[t]? with
    | none => G
    | some y => match idx y.1.pairs (keyR G k).1 with
      | some i => G.modify t (prsF (y.1.pairs.eraseIdx i) v)
      | none => G
end Go.Proofs.Ytlflkdmbbomjeaa
