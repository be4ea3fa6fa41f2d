/-
  What is put into an array, by a contract: Put.
-/
import Derived.Test.YtfilbfenpdaahaaGreatDoorStoPut
namespace Go.Proofs.YtfilbfenpdaahaaGreatDoor
open Go.RowKit
open St
/-- a thing's content is another, its rows lie where they did -/
structure SameHead (f : Th × Lay → Th × Lay) : Prop where
  kind : ∀ x, (f x).1.kind = x.1.kind
  most : ∀ x, (f x).1.most = x.1.most
  acc : ∀ x, (f x).1.acc = x.1.acc
  lay : ∀ x, (f x).2 = x.2
theorem thsC_modify {f : Th × Lay → Th × Lay} (hf : SameHead f) : ∀ (G : List (Th × Lay)) (r i : Nat), thsC r (G.modify i f) = thsC r G
  | [], r, i => by simp
  | x :: G, r, 0 => by
    rw [List.modify_zero_cons, thsC, thsC]
    simp [thC, hf.kind, hf.most, hf.acc, hf.lay]
  | x :: G, r, i + 1 => by rw [List.modify_succ_cons, thsC, thsC, thsC_modify hf G]
theorem modify_at {f : Th × Lay → Th × Lay} {G : List (Th × Lay)} {i j : Nat} {x : Th × Lay} (h : (G.modify i f)[j]? = some x) : (j = i ∧ ∃ y, G[i]? = some y ∧ x = f y) ∨ (j ≠ i ∧ G[j]? = some x) := by
  rw [List.getElem?_modify] at h
  by_cases hij : i = j
  · subst hij
    simp at h
    obtain ⟨a, b, hy, e⟩ := h
    exact .inl ⟨rfl, (a, b), hy, e.symm⟩
  · simp [hij] at h
    exact .inr ⟨fun e => hij e.symm, h⟩
/-- the one thing's rows turned, and nothing else of the store -/
theorem rep_modify {O : Nat → Prop} {w w' : World} {s i B : Nat} {fr : Int} {G : List (Th × Lay)} {y : Th × Lay} {f : Th × Lay → Th × Lay} {cs : Array Value} {e : TypeId} (h : Rep O w s fr G) (hf : SameHead f) (hy : G[i]? = some y) (hB : w.heap[B]? = some (.cells cs e (0, 0))) (he : e ≠ 63 ∧ e ≠ 69)
    (hfar : ∀ k, k ≠ B → w'.heap[k]? = w.heap[k]?) (hsz : w'.heap.size = w.heap.size) (hown : isB y.2.b B ∨ isB y.2.i B ∨ isB y.2.p B) (hty : (isB y.2.b B → e = 5) ∧ (isB y.2.i B → e = 110) ∧ (isB y.2.p B → e = 112)) (hT : ThR O w' (f y).1 y.2) : Rep O w' s fr (G.modify i f) := by
  obtain ⟨tv, am, cm, ac, cc, hb, ht, ho⟩ := h.blk
  have hsB : s ≠ B := fun e1 => by subst e1; rw [hb] at hB; cases hB; exact he.1 rfl
  have htv : ∀ k, isB tv k → k ≠ B := fun k hk e1 => own_ne hB ht he.2 (by rw [← e1]; exact hk.symm)
  refine ⟨h.os, fun k hk => by rw [hsz]; exact h.olt k hk, ⟨tv, am, cm, ac, cc, by rw [hfar s hsB, List.length_modify]; exact hb, by rw [thsC_modify hf, List.length_modify]; exact owns_same ht (fun k hk => hfar k (htv k hk)), ho⟩, fun j x hx => ?_, fun a b x z hab hx hz => ?_, h.fr0, by rw [List.length_modify]; exact h.few⟩
  · rcases modify_at hx with ⟨rfl, y', hy', rfl⟩ | ⟨hj, hx'⟩
    · rw [hy] at hy'; cases hy'
      rw [hf.lay]; exact hT
    · have hr := h.row j x hx'
      have hap := h.apart i j y x (fun e => hj e.symm) hy hx'
      refine hr.same (fun k hk => hfar k (fun e1 => ?_))
      subst e1
      rcases hk with hk | hk | hk
      · have : e = 5 := by
          rcases hr.rb.2 with ⟨e0, _⟩ | ⟨g, c, cu, e0, _, hg, _⟩
          · rw [e0] at hk; cases hk
          · rw [e0] at hk
            have : g = k := by simpa [isB, Value.ownBlock] using hk
            subst this; rw [hB] at hg; cases hg; rfl
        rcases hown with a | a | a
        · exact (hap k).1 a hk
        · have := hty.2.1 a; subst this; cases ‹_ = _›
        · have := hty.2.2 a; subst this; cases ‹_ = _›
      · have : e = 110 := by
          rcases hr.ri.2 with ⟨e0, _⟩ | ⟨g, c, cu, e0, _, hg, _⟩
          · rw [e0] at hk; cases hk
          · rw [e0] at hk
            have : g = k := by simpa [isB, Value.ownBlock] using hk
            subst this; rw [hB] at hg; cases hg; rfl
        rcases hown with a | a | a
        · have := hty.1 a; subst this; cases ‹_ = _›
        · exact (hap k).2.1 a hk
        · have := hty.2.2 a; subst this; cases ‹_ = _›
      · have : e = 112 := by
          rcases hr.rp.2 with ⟨e0, _⟩ | ⟨g, c, cu, e0, _, hg, _⟩
          · rw [e0] at hk; cases hk
          · rw [e0] at hk
            have : g = k := by simpa [isB, Value.ownBlock] using hk
            subst this; rw [hB] at hg; cases hg; rfl
        rcases hown with a | a | a
        · have := hty.1 a; subst this; cases ‹_ = _›
        · have := hty.2.1 a; subst this; cases ‹_ = _›
        · exact (hap k).2.2 a hk
  · have key : ∀ (j : Nat) (x : Th × Lay), (G.modify i f)[j]? = some x → ∃ x', G[j]? = some x' ∧ x'.2 = x.2 := fun j x hx => by
      rcases modify_at hx with ⟨rfl, y', hy', rfl⟩ | ⟨_, hx'⟩
      · exact ⟨y', hy', (hf.lay y').symm⟩
      · exact ⟨x, hx', rfl⟩
    obtain ⟨x', hx', ex⟩ := key a x hx
    obtain ⟨z', hz', ez⟩ := key b z hz
    rw [← ex, ← ez]
    exact h.apart a b x' z' hab hx' hz'
/-- x comes to the p-th item of the t-th thing -/
def putF (p : Nat) (x : Ob) (y : Th × Lay) : Th × Lay := (⟨y.1.kind, y.1.bytes, y.1.items.set p x, y.1.pairs, y.1.most, y.1.acc⟩, y.2)
def putG (G : List (Th × Lay)) (t p : Nat) (x : Ob) : List (Th × Lay) := G.modify t (putF p x)
theorem putF_head (p : Nat) (x : Ob) : SameHead (putF p x) := ⟨fun _ => rfl, fun _ => rfl, fun _ => rfl, fun _ => rfl⟩
/-- a thing's items are in a block -/
theorem items_block {O : Nat → Prop} {w : World} {t : Th} {l : Lay} (h : ThR O w t l) (hn : 0 < t.items.length) : ∃ B c cur, l.i = .slice (some ⟨B, 0, none⟩) t.items.length c ∧ w.heap[B]? = some (.cells cur 110 (0, 0)) := by
  rcases h.ri.2 with ⟨_, h0⟩ | ⟨g, cap, cur, e, _, hg, _⟩
  · omega
  · exact ⟨g, cap, cur, e, hg⟩
theorem items_slot {O : Nat → Prop} {w : World} {t : Th} {l : Lay} {B c p : Nat} (h : ThR O w t l) (e : l.i = .slice (some ⟨B, 0, none⟩) t.items.length c) (hp : p < t.items.length) : Slot w B (p * 9) := by
  have hr := h.ri
  rw [e] at hr
  have hx : t.items[p]? = some t.items[p] := List.getElem?_eq_getElem hp
  refine ⟨owns_lt hr rfl, fun j hj => ?_, ?_, fun j => hr.frozenAt j⟩
  · rw [hr.cellAt (p * 9 + j) (by omega), slots_at _ p j _ hx (by omega)]
    exact ⟨(slotC t.items[p])[j]'(by simp [slotC]; omega), List.getElem?_eq_getElem _⟩
  · rw [hr.cellAt (p * 9 + 8) (by omega), slots_at _ p 8 _ hx (by omega)]; rfl
theorem rep_put {O : Nat → Prop} {w : World} {s i B c p : Nat} {fr : Int} {G : List (Th × Lay)} {y : Th × Lay} (h : Rep O w s fr G) (hy : G[i]? = some y) (e : y.2.i = .slice (some ⟨B, 0, none⟩) y.1.items.length c) (hp : p < y.1.items.length) (x : Ob) : Rep O (set8 w B (p * 9) x) s fr (putG G i p x) := by
  have hr := h.row i y hy
  obtain ⟨B', c', cur, e', hB⟩ := items_block hr (by omega)
  rw [e] at e'
  cases e'
  have hri := hr.ri
  rw [e] at hri
  have nb : ¬ isB y.2.b B := fun k => by
    rcases hr.rb.2 with ⟨e0, _⟩ | ⟨g, cc, cu, e0, _, hg, _⟩
    · rw [e0] at k; cases k
    · rw [e0] at k
      have : g = B := by simpa [isB, Value.ownBlock] using k
      subst this; rw [hB] at hg; cases hg
  have np : ¬ isB y.2.p B := fun k => by
    rcases hr.rp.2 with ⟨e0, _⟩ | ⟨g, cc, cu, e0, _, hg, _⟩
    · rw [e0] at k; cases k
    · rw [e0] at k
      have : g = B := by simpa [isB, Value.ownBlock] using k
      subst this; rw [hB] at hg; cases hg
  have hfar : ∀ k, k ≠ B → (set8 w B (p * 9) x).heap[k]? = w.heap[k]? := fun k hk => set8_far hk
  refine rep_modify h (putF_head p x) hy hB ⟨by decide, by decide⟩ hfar (set8_size _ _ _ _) (.inr (.inl (by rw [e]; rfl))) ⟨fun k => absurd k nb, fun _ => rfl, fun k => absurd k np⟩ ?_
  refine ⟨owns_same hr.rb (fun k hk => hfar k (fun e1 => nb (e1 ▸ hk))), ?_, owns_same hr.rp (fun k hk => hfar k (fun e1 => np (e1 ▸ hk))), hr.ob, hr.oi, hr.op, hr.nb, by simpa [putF] using hr.ni, hr.np, hr.nm⟩
  have := set8_own hri (p * 9) x
  rw [lset8_slots x _ p hp] at this
  simp only [putF, List.length_set]
  rw [e]; exact this
def putE (G : List (Th × Lay)) (o : Ob) (i : Int) (x : Ob) : Int := if tld G o 7 = none then 21 else if valid G x = true then (if liesB i 1 o.len = true then 0 else 11) else 21
end Go.Proofs.YtfilbfenpdaahaaGreatDoor
