/-
  What is put, by contracts: fill, Put.
What is put into an array, by a contract: Put.
Parts, by a contract: Part.
What is put into an array, by a contract: Put.
-/
import Derived.Test.YtfilbfenpdaahaaGreatDoorStoMk
namespace Go.Proofs.YtfilbfenpdaahaaGreatDoor
open Go.RowKit
open St
/-- eight cells of a row are written -/
def set8 (W : World) (B o : Nat) (x : Ob) : World := (((((((W.setCell ⟨B, o, none⟩ (.int .i64 x.kind)).setCell ⟨B, o + 1, none⟩ (.bool x.exec)).setCell ⟨B, o + 2, none⟩ (.int .i64 x.acc)).setCell ⟨B, o + 3, none⟩ (.int .i64 x.n)).setCell ⟨B, o + 4, none⟩ (.string x.name)).setCell ⟨B, o + 5, none⟩ (.int .i64 x.ref)).setCell ⟨B, o + 6, none⟩ (.int .i64 x.frm)).setCell ⟨B, o + 7, none⟩ (.int .i64 x.len)
theorem set8_far {W : World} {B o k : Nat} {x : Ob} (h : k ≠ B) : (set8 W B o x).heap[k]? = W.heap[k]? := by
  unfold set8
  rw [blk_far h, blk_far h, blk_far h, blk_far h, blk_far h, blk_far h, blk_far h, blk_far h]
theorem set8_size (W : World) (B o : Nat) (x : Ob) : (set8 W B o x).heap.size = W.heap.size := by unfold set8; simp only [setC_size]
theorem set8_env (W : World) (B o : Nat) (x : Ob) : (set8 W B o x).os = W.os ∧ (set8 W B o x).tape = W.tape ∧ (set8 W B o x).output = W.output := by unfold set8; simp only [setC_os, setC_tape, setC_output, and_self]
/-- a list with eight of its cells replaced -/
def lset8 (xs : List Value) (o : Nat) (x : Ob) : List Value := (((((((xs.set o (.int .i64 x.kind)).set (o + 1) (.bool x.exec)).set (o + 2) (.int .i64 x.acc)).set (o + 3) (.int .i64 x.n)).set (o + 4) (.string x.name)).set (o + 5) (.int .i64 x.ref)).set (o + 6) (.int .i64 x.frm)).set (o + 7) (.int .i64 x.len)
theorem own_stored {W : World} {base g n cap size : Nat} {e : TypeId} {xs : List Value} (h : W.ownsRow base e size (.slice (some ⟨g, 0, none⟩) n cap) n xs) (j : Nat) (u : Value) : (W.setCell ⟨g, j, none⟩ u).ownsRow base e size (.slice (some ⟨g, 0, none⟩) n cap) n (xs.set j u) := (h.stored j u).1
theorem set8_own {W : World} {base g n cap size : Nat} {e : TypeId} {xs : List Value} (h : W.ownsRow base e size (.slice (some ⟨g, 0, none⟩) n cap) n xs) (o : Nat) (x : Ob) : (set8 W g o x).ownsRow base e size (.slice (some ⟨g, 0, none⟩) n cap) n (lset8 xs o x) := by
  unfold set8 lset8
  exact own_stored (own_stored (own_stored (own_stored (own_stored (own_stored (own_stored (own_stored h _ _) _ _) _ _) _ _) _ _) _ _) _ _) _ _
theorem set_right (a b : List Value) (j : Nat) (v : Value) : (a ++ b).set (a.length + j) v = a ++ b.set j v := by
  rw [List.set_append_right _ _ (by omega)]; congr 2; omega
theorem lset8_right (a b : List Value) (j : Nat) (x : Ob) : lset8 (a ++ b) (a.length + j) x = a ++ lset8 b j x := by
  unfold lset8
  simp only [Nat.add_assoc, set_right]
theorem lset8_slot (c o : Ob) (r : List Value) (a : List Value) (h : a = slotC o) : lset8 (a ++ r) 0 c = slotC c ++ r := by
  subst h; rfl
theorem lset8_slots (x : Ob) : ∀ (its : List Ob) (p : Nat), p < its.length → lset8 (its.flatMap slotC) (p * 9) x = (its.set p x).flatMap slotC
  | [], p, h => by simp at h
  | o :: its, 0, _ => by
    rw [List.flatMap_cons, Nat.zero_mul, lset8_slot x o _ _ rfl]; rfl
  | o :: its, p + 1, h => by
    rw [List.flatMap_cons, show (p + 1) * 9 = (slotC o).length + p * 9 by simp [slotC]; omega, lset8_right, lset8_slots x its p (by simpa using h), List.set_cons_succ, List.flatMap_cons]
theorem slots_at (its : List Ob) : ∀ (p f : Nat) (o : Ob), its[p]? = some o → f < 9 → (its.flatMap slotC)[p * 9 + f]? = (slotC o)[f]? := by
  induction its with
  | nil => intro p f o h; simp at h
  | cons y its ih =>
    intro p f o h hf
    rw [List.flatMap_cons]
    cases p with
    | zero =>
      simp at h; subst h
      rw [List.getElem?_append_left (by simp [slotC]; omega)]; simp
    | succ p =>
      rw [List.getElem?_append_right (by simp [slotC]; omega)]
      have e : (p + 1) * 9 + f - (slotC y).length = p * 9 + f := by simp [slotC]; omega
      rw [e]; exact ih p f o (by simpa using h) hf
/-- nine cells of a slot, at o of block B: not frozen, and of no mark -/
structure Slot (w : World) (B o : Nat) : Prop where
  lt : B < w.heap.size
  c : ∀ j, j < 8 → ∃ v, w.cell? ⟨B, o + j, none⟩ = some v
  since : w.cell? ⟨B, o + 8, none⟩ = some (.int .i64 0)
  fz : ∀ j, w.frozen? ⟨B, j, none⟩ = false
theorem Slot.below {w w' : World} {B o : Nat} (h : Slot w B o) (hb : Below w.heap.size w w') : Slot w' B o :=
  ⟨Nat.lt_of_lt_of_le h.lt hb.size, fun j hj => by obtain ⟨v, hv⟩ := h.c j hj; exact ⟨v, (hb.cell (by exact h.lt)).trans hv⟩, (hb.cell (by exact h.lt)).trans h.since, fun j => (World.frozen?_of_block (w := w) (hb.block B h.lt)).trans (h.fz j)⟩
theorem slot_cells {w : World} {B o : Nat} (h : Slot w B o) : ∃ v0 v1 v2 v3 v4 v5 v6 v7, w.cell? ⟨B, o, none⟩ = some v0 ∧ w.cell? ⟨B, o + 1, none⟩ = some v1 ∧ w.cell? ⟨B, o + 2, none⟩ = some v2 ∧ w.cell? ⟨B, o + 3, none⟩ = some v3 ∧ w.cell? ⟨B, o + 4, none⟩ = some v4 ∧ w.cell? ⟨B, o + 5, none⟩ = some v5 ∧ w.cell? ⟨B, o + 6, none⟩ = some v6 ∧ w.cell? ⟨B, o + 7, none⟩ = some v7 := by
  obtain ⟨v0, h0⟩ := h.c 0 (by omega)
  obtain ⟨v1, h1⟩ := h.c 1 (by omega)
  obtain ⟨v2, h2⟩ := h.c 2 (by omega)
  obtain ⟨v3, h3⟩ := h.c 3 (by omega)
  obtain ⟨v4, h4⟩ := h.c 4 (by omega)
  obtain ⟨v5, h5⟩ := h.c 5 (by omega)
  obtain ⟨v6, h6⟩ := h.c 6 (by omega)
  obtain ⟨v7, h7⟩ := h.c 7 (by omega)
  exact ⟨v0, v1, v2, v3, v4, v5, v6, v7, h0, h1, h2, h3, h4, h5, h6, h7⟩
theorem mark_field (w : World) (a b c d : Value) : (Instr.field 126 (.agg #[a, b, c, d]) 0).run Tryz.prog w = .ok a w ∧ (Instr.field 126 (.agg #[a, b, c, d]) 1).run Tryz.prog w = .ok b w := by
  have h3 := Tryz.isAgg3
  have hz := Tryz.sizeOf3
  constructor <;> simp [Instr.field, run_underlying Tryz.underlying126, asAgg, part, go_sem]
end Go.Proofs.YtfilbfenpdaahaaGreatDoor
namespace Go.Proofs.YtfilbfenpdaahaaGreatDoor
open Go.RowKit
open St
/-- a thing's content is another, its rows lie where they did -/
structure SameHead (f : Th × Lay → Th × Lay) : Prop where
  kind : ∀ x, (f x).1.kind = x.1.kind
  most : ∀ x, (f x).1.most = x.1.most
  acc : ∀ x, (f x).1.acc = x.1.acc
  lay : ∀ x, (f x).2 = x.2
theorem thsC_modify {f : Th × Lay → Th × Lay} (hf : SameHead f) : ∀ (G : List (Th × Lay)) (r i : Nat), thsC r (G.modify i f) = thsC r G
  | [], r, i => by simp
  | x :: G, r, 0 => by
    rw [List.modify_zero_cons, thsC, thsC]
    simp [thC, hf.kind, hf.most, hf.acc, hf.lay]
  | x :: G, r, i + 1 => by rw [List.modify_succ_cons, thsC, thsC, thsC_modify hf G]
theorem modify_at {f : Th × Lay → Th × Lay} {G : List (Th × Lay)} {i j : Nat} {x : Th × Lay} (h : (G.modify i f)[j]? = some x) : (j = i ∧ ∃ y, G[i]? = some y ∧ x = f y) ∨ (j ≠ i ∧ G[j]? = some x) := by
  rw [List.getElem?_modify] at h
  by_cases hij : i = j
  · subst hij
    simp at h
    obtain ⟨a, b, hy, e⟩ := h
    exact .inl ⟨rfl, (a, b), hy, e.symm⟩
  · simp [hij] at h
    exact .inr ⟨fun e => hij e.symm, h⟩
/-- the one thing's rows turned, and nothing else of the store -/
theorem rep_modify {O : Nat → Prop} {w w' : World} {s i B : Nat} {fr : Int} {G : List (Th × Lay)} {y : Th × Lay} {f : Th × Lay → Th × Lay} {cs : Array Value} {e : TypeId} (h : Rep O w s fr G) (hf : SameHead f) (hy : G[i]? = some y) (hB : w.heap[B]? = some (.cells cs e (0, 0))) (he : e ≠ 63 ∧ e ≠ 69)
    (hfar : ∀ k, k ≠ B → w'.heap[k]? = w.heap[k]?) (hsz : w'.heap.size = w.heap.size) (hown : isB y.2.b B ∨ isB y.2.i B ∨ isB y.2.p B) (hty : (isB y.2.b B → e = 5) ∧ (isB y.2.i B → e = 110) ∧ (isB y.2.p B → e = 112)) (hT : ThR O w' (f y).1 y.2) : Rep O w' s fr (G.modify i f) := by
  obtain ⟨tv, am, cm, ac, cc, hb, ht, ho⟩ := h.blk
  have hsB : s ≠ B := fun e1 => by subst e1; rw [hb] at hB; cases hB; exact he.1 rfl
  have htv : ∀ k, isB tv k → k ≠ B := fun k hk e1 => own_ne hB ht he.2 (by rw [← e1]; exact hk.symm)
  refine ⟨h.os, fun k hk => by rw [hsz]; exact h.olt k hk, ⟨tv, am, cm, ac, cc, by rw [hfar s hsB, List.length_modify]; exact hb, by rw [thsC_modify hf, List.length_modify]; exact owns_same ht (fun k hk => hfar k (htv k hk)), ho⟩, fun j x hx => ?_, fun a b x z hab hx hz => ?_, h.fr0, by rw [List.length_modify]; exact h.few⟩
  · rcases modify_at hx with ⟨rfl, y', hy', rfl⟩ | ⟨hj, hx'⟩
    · rw [hy] at hy'; cases hy'
      rw [hf.lay]; exact hT
    · have hr := h.row j x hx'
      have hap := h.apart i j y x (fun e => hj e.symm) hy hx'
      refine hr.same (fun k hk => hfar k (fun e1 => ?_))
      subst e1
      rcases hk with hk | hk | hk
      · have : e = 5 := by
          rcases hr.rb.2 with ⟨e0, _⟩ | ⟨g, c, cu, e0, _, hg, _⟩
          · rw [e0] at hk; cases hk
          · rw [e0] at hk
            have : g = k := by simpa [isB, Value.ownBlock] using hk
            subst this; rw [hB] at hg; cases hg; rfl
        rcases hown with a | a | a
        · exact (hap k).1 a hk
        · have := hty.2.1 a; subst this; cases ‹_ = _›
        · have := hty.2.2 a; subst this; cases ‹_ = _›
      · have : e = 110 := by
          rcases hr.ri.2 with ⟨e0, _⟩ | ⟨g, c, cu, e0, _, hg, _⟩
          · rw [e0] at hk; cases hk
          · rw [e0] at hk
            have : g = k := by simpa [isB, Value.ownBlock] using hk
            subst this; rw [hB] at hg; cases hg; rfl
        rcases hown with a | a | a
        · have := hty.1 a; subst this; cases ‹_ = _›
        · exact (hap k).2.1 a hk
        · have := hty.2.2 a; subst this; cases ‹_ = _›
      · have : e = 112 := by
          rcases hr.rp.2 with ⟨e0, _⟩ | ⟨g, c, cu, e0, _, hg, _⟩
          · rw [e0] at hk; cases hk
          · rw [e0] at hk
            have : g = k := by simpa [isB, Value.ownBlock] using hk
            subst this; rw [hB] at hg; cases hg; rfl
        rcases hown with a | a | a
        · have := hty.1 a; subst this; cases ‹_ = _›
        · have := hty.2.1 a; subst this; cases ‹_ = _›
        · exact (hap k).2.2 a hk
  · have key : ∀ (j : Nat) (x : Th × Lay), (G.modify i f)[j]? = some x → ∃ x', G[j]? = some x' ∧ x'.2 = x.2 := fun j x hx => by
      rcases modify_at hx with ⟨rfl, y', hy', rfl⟩ | ⟨_, hx'⟩
      · exact ⟨y', hy', (hf.lay y').symm⟩
      · exact ⟨x, hx', rfl⟩
    obtain ⟨x', hx', ex⟩ := key a x hx
    obtain ⟨z', hz', ez⟩ := key b z hz
    rw [← ex, ← ez]
    exact h.apart a b x' z' hab hx' hz'
/-- x comes to the p-th item of the t-th thing -/
def putF (p : Nat) (x : Ob) (y : Th × Lay) : Th × Lay := (⟨y.1.kind, y.1.bytes, y.1.items.set p x, y.1.pairs, y.1.most, y.1.acc⟩, y.2)
def putG (G : List (Th × Lay)) (t p : Nat) (x : Ob) : List (Th × Lay) := G.modify t (putF p x)
theorem putF_head (p : Nat) (x : Ob) : SameHead (putF p x) := ⟨fun _ => rfl, fun _ => rfl, fun _ => rfl, fun _ => rfl⟩
/-- a thing's items are in a block -/
theorem items_block {O : Nat → Prop} {w : World} {t : Th} {l : Lay} (h : ThR O w t l) (hn : 0 < t.items.length) : ∃ B c cur, l.i = .slice (some ⟨B, 0, none⟩) t.items.length c ∧ w.heap[B]? = some (.cells cur 110 (0, 0)) := by
  rcases h.ri.2 with ⟨_, h0⟩ | ⟨g, cap, cur, e, _, hg, _⟩
  · omega
  · exact ⟨g, cap, cur, e, hg⟩
theorem items_slot {O : Nat → Prop} {w : World} {t : Th} {l : Lay} {B c p : Nat} (h : ThR O w t l) (e : l.i = .slice (some ⟨B, 0, none⟩) t.items.length c) (hp : p < t.items.length) : Slot w B (p * 9) := by
  have hr := h.ri
  rw [e] at hr
  have hx : t.items[p]? = some t.items[p] := List.getElem?_eq_getElem hp
  refine ⟨owns_lt hr rfl, fun j hj => ?_, ?_, fun j => hr.frozenAt j⟩
  · rw [hr.cellAt (p * 9 + j) (by omega), slots_at _ p j _ hx (by omega)]
    exact ⟨(slotC t.items[p])[j]'(by simp [slotC]; omega), List.getElem?_eq_getElem _⟩
  · rw [hr.cellAt (p * 9 + 8) (by omega), slots_at _ p 8 _ hx (by omega)]; rfl
theorem rep_put {O : Nat → Prop} {w : World} {s i B c p : Nat} {fr : Int} {G : List (Th × Lay)} {y : Th × Lay} (h : Rep O w s fr G) (hy : G[i]? = some y) (e : y.2.i = .slice (some ⟨B, 0, none⟩) y.1.items.length c) (hp : p < y.1.items.length) (x : Ob) : Rep O (set8 w B (p * 9) x) s fr (putG G i p x) := by
  have hr := h.row i y hy
  obtain ⟨B', c', cur, e', hB⟩ := items_block hr (by omega)
  rw [e] at e'
  cases e'
  have hri := hr.ri
  rw [e] at hri
  have nb : ¬ isB y.2.b B := fun k => by
    rcases hr.rb.2 with ⟨e0, _⟩ | ⟨g, cc, cu, e0, _, hg, _⟩
    · rw [e0] at k; cases k
    · rw [e0] at k
      have : g = B := by simpa [isB, Value.ownBlock] using k
      subst this; rw [hB] at hg; cases hg
  have np : ¬ isB y.2.p B := fun k => by
    rcases hr.rp.2 with ⟨e0, _⟩ | ⟨g, cc, cu, e0, _, hg, _⟩
    · rw [e0] at k; cases k
    · rw [e0] at k
      have : g = B := by simpa [isB, Value.ownBlock] using k
      subst this; rw [hB] at hg; cases hg
  have hfar : ∀ k, k ≠ B → (set8 w B (p * 9) x).heap[k]? = w.heap[k]? := fun k hk => set8_far hk
  refine rep_modify h (putF_head p x) hy hB ⟨by decide, by decide⟩ hfar (set8_size _ _ _ _) (.inr (.inl (by rw [e]; rfl))) ⟨fun k => absurd k nb, fun _ => rfl, fun k => absurd k np⟩ ?_
  refine ⟨owns_same hr.rb (fun k hk => hfar k (fun e1 => nb (e1 ▸ hk))), ?_, owns_same hr.rp (fun k hk => hfar k (fun e1 => np (e1 ▸ hk))), hr.ob, hr.oi, hr.op, hr.nb, by simpa [putF] using hr.ni, hr.np, hr.nm⟩
  have := set8_own hri (p * 9) x
  rw [lset8_slots x _ p hp] at this
  simp only [putF, List.length_set]
  rw [e]; exact this
def putE (G : List (Th × Lay)) (o : Ob) (i : Int) (x : Ob) : Int := if tld G o 7 = none then 21 else if valid G x = true then (if liesB i 1 o.len = true then 0 else 11) else 21
end Go.Proofs.YtfilbfenpdaahaaGreatDoor
namespace Go.Proofs.YtfilbfenpdaahaaGreatDoor
open Go.RowKit
open St
def partR (G : List (Th × Lay)) (o : Ob) (f n : Int) : Ob × Int := if tld G o 6 = none ∧ tld G o 7 = none then (nul, 21) else if liesB f n o.len = true then (prt o f n, 0) else (nul, 11)
/-- an object and an error, answered -/
def ObE (r : Ob × Int) (w : World) (e : Ending) (w' : World) : Prop := e = .returned (.tuple #[r.1.val, .int .i64 r.2]) ∧ Below w.heap.size w w'
theorem cellsOb {w : World} {B : Nat} {v0 v1 v2 v3 v4 v5 v6 v7 : Value} {t : TypeId} (h : w.heap[B]? = some (.cells #[v0, v1, v2, v3, v4, v5, v6, v7] t (0, 0))) : w.cell? ⟨B, 0, none⟩ = some v0 ∧ w.cell? ⟨B, 1, none⟩ = some v1 ∧ w.cell? ⟨B, 2, none⟩ = some v2 ∧ w.cell? ⟨B, 3, none⟩ = some v3 ∧ w.cell? ⟨B, 4, none⟩ = some v4 ∧ w.cell? ⟨B, 5, none⟩ = some v5 ∧ w.cell? ⟨B, 6, none⟩ = some v6 ∧ w.cell? ⟨B, 7, none⟩ = some v7 :=
  ⟨blk_cell h 0, blk_cell h 1, blk_cell h 2, blk_cell h 3, blk_cell h 4, blk_cell h 5, blk_cell h 6, blk_cell h 7⟩
theorem items_len7 {x : Th} (h : x.kind = 7) : x.length = x.items.length := by unfold Th.length; rw [if_neg (by omega), if_pos h]
theorem below_set {B : Nat} {w w' : World} (h : Below B w w') {a : Addr} (ha : B ≤ a.block) (v : Value) : Below B w (w'.setCell a v) := h.setCell ha v
theorem below_put8 {B b : Nat} {w w3 w4 : World} {t : TypeId} {v0 v1 v2 v3 v4 v5 v6 v7 : Value} (h : Below B w w3) (hb : B ≤ b) (hp : Put8 w3 b t v0 v1 v2 v3 v4 v5 v6 v7 w4) : Below B w w4 :=
  h.trans ⟨hp.os, hp.tape, hp.output, by rw [hp.size]; exact Nat.le_refl _, fun k hk => hp.far k (by omega)⟩
theorem tld_bounds {O : Nat → Prop} {w : World} {s : Nat} {fr k : Int} {G : List (Th × Lay)} {o : Ob} {i : Nat} (h : Rep O w s fr G) (ht : tld G o k = some i) : 0 ≤ o.frm ∧ 0 ≤ o.len ∧ o.frm + o.len ≤ 65535 ∧ ∃ x, G[i]? = some x ∧ x.1.kind = k ∧ o.frm + o.len ≤ x.1.length ∧ x.1.length ≤ 65535 := by
  obtain ⟨_, _, x, hx, hk, hl⟩ := tld_some ht
  have hr := h.row i x hx
  have hL := length_le hr.nb hr.ni
  have := liesB_iff.1 hl
  exact ⟨by omega, by omega, by omega, x, hx, hk, by omega, hL⟩
set_option maxRecDepth 100000 in
set_option maxHeartbeats 8000000 in
theorem part_at {O : Nat → Prop} {w : World} {s : Nat} {fr : Int} {G : List (Th × Lay)} (h : Rep O w s fr G) (o : Ob) (f m : Int) :
    Calls Tryz.prog 70 #[.pointer (some ⟨s, 0, none⟩), o.val, .int .i64 f, .int .i64 m] w (ObE (partR G o f m) w) := by
  have h2 := h.below (below2 w (obC o) (.cells zeroOb 27))
  obtain ⟨tv, hv⟩ := Rep.vw h2
  have HT6 := Lib.hid (told_rep h2 hv o 6)
  have HT7 := Lib.hid (fun w3 hb => told_rep (w := w3) (h2.below hb) (hv.below hb) o 7)
  have HBX := Lib.hid (show ∀ w3, Below ((w.alloc (obC o)).alloc (.cells zeroOb 27)).heap.size ((w.alloc (obC o)).alloc (.cells zeroOb 27)) w3 → w3.heap[w.heap.size]? = some (obC o) from fun w3 hb => (below_z hb).1)
  have HBZ := Lib.hid (show ∀ w3, Below ((w.alloc (obC o)).alloc (.cells zeroOb 27)).heap.size ((w.alloc (obC o)).alloc (.cells zeroOb 27)) w3 → w3.heap[w.heap.size + 1]? = some (.cells zeroOb 27 (0, 0)) from fun w3 hb => (below_z hb).2)
  have hbd : ∀ k i, tld G o k = some i → 0 ≤ o.frm ∧ 0 ≤ o.len ∧ o.frm + o.len ≤ 65535 := fun k i ht => by have := tld_bounds h ht; exact ⟨this.1, this.2.1, this.2.2.1⟩
  have hpr : partR G o f m = if tld G o 6 = none ∧ tld G o 7 = none then (nul, 21) else if liesB f m o.len = true then (prt o f m, 0) else (nul, 11) := rfl
  unfold ObE
  generalize partR G o f m = r at *
  generalize ht6 : tld G o 6 = t6 at *
  generalize ht7 : tld G o 7 = t7 at *
  clear h h2 hv
  cases t6 with
  | none =>
    cases t7 with
    | none =>
      simp only [and_self, if_true] at hpr
      subst hpr
      obtain ⟨kd, ex, ac, n, nm, rf, fm, ln⟩ := o
      simp only [thP, Option.map_none, obC, zeroOb, Ob.val] at HT6 HT7 HBX HBZ ⊢
      clear hbd ht7 ht6
      go_enter Tryz.func70, Tryz.ntmps70
      go_wp2_with fail
      refine HT6.out.mono ?_; rintro e w2 ⟨rfl, hb⟩
      have c := HBX.out w2 hb
      have q0 : w2.cell? ⟨w.heap.size, 0, none⟩ = some (.int .i64 kd) := blk_cell c 0
      have q1 : w2.cell? ⟨w.heap.size, 1, none⟩ = some (.bool ex) := blk_cell c 1
      have q2 : w2.cell? ⟨w.heap.size, 2, none⟩ = some (.int .i64 ac) := blk_cell c 2
      have q3 : w2.cell? ⟨w.heap.size, 3, none⟩ = some (.int .i64 n) := blk_cell c 3
      have q4 : w2.cell? ⟨w.heap.size, 4, none⟩ = some (.string nm) := blk_cell c 4
      have q5 : w2.cell? ⟨w.heap.size, 5, none⟩ = some (.int .i64 rf) := blk_cell c 5
      have q6 : w2.cell? ⟨w.heap.size, 6, none⟩ = some (.int .i64 fm) := blk_cell c 6
      have q7 : w2.cell? ⟨w.heap.size, 7, none⟩ = some (.int .i64 ln) := blk_cell c 7
      have HT := Lib.hid (HT7.out w2 hb)
      have HB2 := Lib.hid hb
      clear hb c HT7
      go_wp2_with fail
      refine HT.out.mono ?_; rintro e w3 ⟨rfl, hb3⟩
      have hbb := bthen HB2.out hb3
      have HB := Lib.hid (bthen (below2 w _ _) hbb)
      obtain ⟨d0, d1, d2, d3, d4, d5, d6, d7, df⟩ := box_cells (HBZ.out w3 hbb)
      have HZ := Lib.hid (HBZ.out w3 hbb)
      clear hb3 hbb q0 q1 q2 q3 q4 q5 q6 q7
      go_wp2_with fail
      have hp := put8 HZ.out (.int .i64 0) (.bool false) (.int .i64 0) (.int .i64 0) (.string ⟨#[]⟩) (.int .i64 0) (.int .i64 0) (.int .i64 0)
      exact bodyPost_ret (results_ob2 Tryz.results70 _ _ (w.heap.size + 1) rfl rfl hp.blk) rfl ⟨rfl, below_put8 HB.out (by omega) hp⟩
    | some i =>
      obtain ⟨b1, b2, b3⟩ := hbd 7 i ht7
      simp only [reduceCtorEq, and_false, if_false] at hpr
      obtain ⟨kd, ex, ac, n, nm, rf, fm, ln⟩ := o
      simp only at b1 b2 b3
      obtain ⟨L, rfl⟩ : ∃ L : Nat, ln = L := ⟨ln.toNat, by omega⟩
      have HLi := Lib.hid (fun w => lies_at f m L (by omega) w)
      simp only [thP, Option.map_none, Option.map_some, obC, zeroOb, Ob.val] at HT6 HT7 HBX HBZ hpr ⊢
      clear hbd ht7 ht6
      cases hl : liesB f m L with
      | false =>
        rw [hl] at HLi hpr
        simp only [Bool.false_eq_true, if_false] at hpr
        subst hpr
        clear hl
        go_enter Tryz.func70, Tryz.ntmps70
        go_wp2_with fail
        refine HT6.out.mono ?_; rintro e w2 ⟨rfl, hb⟩
        have c := HBX.out w2 hb
        have q0 : w2.cell? ⟨w.heap.size, 0, none⟩ = some (.int .i64 kd) := blk_cell c 0
        have q1 : w2.cell? ⟨w.heap.size, 1, none⟩ = some (.bool ex) := blk_cell c 1
        have q2 : w2.cell? ⟨w.heap.size, 2, none⟩ = some (.int .i64 ac) := blk_cell c 2
        have q3 : w2.cell? ⟨w.heap.size, 3, none⟩ = some (.int .i64 n) := blk_cell c 3
        have q4 : w2.cell? ⟨w.heap.size, 4, none⟩ = some (.string nm) := blk_cell c 4
        have q5 : w2.cell? ⟨w.heap.size, 5, none⟩ = some (.int .i64 rf) := blk_cell c 5
        have q6 : w2.cell? ⟨w.heap.size, 6, none⟩ = some (.int .i64 fm) := blk_cell c 6
        have q7 : w2.cell? ⟨w.heap.size, 7, none⟩ = some (.int .i64 (L : Int)) := blk_cell c 7
        have HT := Lib.hid (HT7.out w2 hb)
        have HB2 := Lib.hid hb
        clear hb c HT7
        go_wp2_with fail
        refine HT.out.mono ?_; rintro e w3 ⟨rfl, hb3⟩
        have hbb := bthen HB2.out hb3
        clear hb3 q0 q1 q2 q3 q4 q5 q6 q7
        have hb2 : w3.heap[w.heap.size]? = some (.cells #[.int .i64 kd, .bool ex, .int .i64 ac, .int .i64 n, .string nm, .int .i64 rf, .int .i64 fm, .int .i64 (L : Int)] 27 (0, 0)) := HBX.out w3 hbb
        have hb1 : w3.heap[w.heap.size + 1]? = some (.cells zeroOb 27 (0, 0)) := HBZ.out w3 hbb
        have HB := Lib.hid (show Below w.heap.size w w3 from bthen (below2 w _ _) hbb)
        have q0 : w3.cell? ⟨w.heap.size, 0, none⟩ = some (.int .i64 kd) := blk_cell hb2 0
        have q1 : w3.cell? ⟨w.heap.size, 1, none⟩ = some (.bool ex) := blk_cell hb2 1
        have q2 : w3.cell? ⟨w.heap.size, 2, none⟩ = some (.int .i64 ac) := blk_cell hb2 2
        have q3 : w3.cell? ⟨w.heap.size, 3, none⟩ = some (.int .i64 n) := blk_cell hb2 3
        have q4 : w3.cell? ⟨w.heap.size, 4, none⟩ = some (.string nm) := blk_cell hb2 4
        have q5 : w3.cell? ⟨w.heap.size, 5, none⟩ = some (.int .i64 rf) := blk_cell hb2 5
        have q6 : w3.cell? ⟨w.heap.size, 6, none⟩ = some (.int .i64 fm) := blk_cell hb2 6
        have q7 : w3.cell? ⟨w.heap.size, 7, none⟩ = some (.int .i64 (L : Int)) := blk_cell hb2 7
        have qf : ∀ o, w3.frozen? ⟨w.heap.size, o, none⟩ = false := blk_free hb2
        obtain ⟨d0, d1, d2, d3, d4, d5, d6, d7, df⟩ := box_cells hb1
        have HZ := Lib.hid hb1
        have HX := Lib.hid hb2
        clear hb1 hb2
        go_wp2_with fail
        refine (HLi.out _).mono ?_; rintro e w4 ⟨rfl, rfl⟩
        go_wp2_with fail
        have hp := put8 HZ.out (.int .i64 0) (.bool false) (.int .i64 0) (.int .i64 0) (.string ⟨#[]⟩) (.int .i64 0) (.int .i64 0) (.int .i64 0)
        exact bodyPost_ret (results_ob2 Tryz.results70 _ _ (w.heap.size + 1) rfl rfl hp.blk) rfl ⟨rfl, below_put8 HB.out (by omega) hp⟩
      | true =>
        have hlb := liesB_iff.1 hl
        rw [hl] at HLi hpr
        simp only [if_true] at hpr
        subst hpr
        clear hl
        go_enter Tryz.func70, Tryz.ntmps70
        go_wp2_with fail
        refine HT6.out.mono ?_; rintro e w2 ⟨rfl, hb⟩
        have c := HBX.out w2 hb
        have q0 : w2.cell? ⟨w.heap.size, 0, none⟩ = some (.int .i64 kd) := blk_cell c 0
        have q1 : w2.cell? ⟨w.heap.size, 1, none⟩ = some (.bool ex) := blk_cell c 1
        have q2 : w2.cell? ⟨w.heap.size, 2, none⟩ = some (.int .i64 ac) := blk_cell c 2
        have q3 : w2.cell? ⟨w.heap.size, 3, none⟩ = some (.int .i64 n) := blk_cell c 3
        have q4 : w2.cell? ⟨w.heap.size, 4, none⟩ = some (.string nm) := blk_cell c 4
        have q5 : w2.cell? ⟨w.heap.size, 5, none⟩ = some (.int .i64 rf) := blk_cell c 5
        have q6 : w2.cell? ⟨w.heap.size, 6, none⟩ = some (.int .i64 fm) := blk_cell c 6
        have q7 : w2.cell? ⟨w.heap.size, 7, none⟩ = some (.int .i64 (L : Int)) := blk_cell c 7
        have HT := Lib.hid (HT7.out w2 hb)
        have HB2 := Lib.hid hb
        clear hb c HT7
        go_wp2_with fail
        refine HT.out.mono ?_; rintro e w3 ⟨rfl, hb3⟩
        have hbb := bthen HB2.out hb3
        clear hb3 q0 q1 q2 q3 q4 q5 q6 q7
        have hb2 : w3.heap[w.heap.size]? = some (.cells #[.int .i64 kd, .bool ex, .int .i64 ac, .int .i64 n, .string nm, .int .i64 rf, .int .i64 fm, .int .i64 (L : Int)] 27 (0, 0)) := HBX.out w3 hbb
        have hb1 : w3.heap[w.heap.size + 1]? = some (.cells zeroOb 27 (0, 0)) := HBZ.out w3 hbb
        have HB := Lib.hid (show Below w.heap.size w w3 from bthen (below2 w _ _) hbb)
        have q0 : w3.cell? ⟨w.heap.size, 0, none⟩ = some (.int .i64 kd) := blk_cell hb2 0
        have q1 : w3.cell? ⟨w.heap.size, 1, none⟩ = some (.bool ex) := blk_cell hb2 1
        have q2 : w3.cell? ⟨w.heap.size, 2, none⟩ = some (.int .i64 ac) := blk_cell hb2 2
        have q3 : w3.cell? ⟨w.heap.size, 3, none⟩ = some (.int .i64 n) := blk_cell hb2 3
        have q4 : w3.cell? ⟨w.heap.size, 4, none⟩ = some (.string nm) := blk_cell hb2 4
        have q5 : w3.cell? ⟨w.heap.size, 5, none⟩ = some (.int .i64 rf) := blk_cell hb2 5
        have q6 : w3.cell? ⟨w.heap.size, 6, none⟩ = some (.int .i64 fm) := blk_cell hb2 6
        have q7 : w3.cell? ⟨w.heap.size, 7, none⟩ = some (.int .i64 (L : Int)) := blk_cell hb2 7
        have qf : ∀ o, w3.frozen? ⟨w.heap.size, o, none⟩ = false := blk_free hb2
        obtain ⟨d0, d1, d2, d3, d4, d5, d6, d7, df⟩ := box_cells hb1
        have HZ := Lib.hid hb1
        have HX := Lib.hid hb2
        clear hb1 hb2
        go_wp2_with fail
        refine (HLi.out _).mono ?_; rintro e w4 ⟨rfl, rfl⟩
        go_wp2_with fail
        have hz2 : ((w4.setCell ⟨w.heap.size, 6, none⟩ (.int .i64 (fm + f))).setCell ⟨w.heap.size, 7, none⟩ (.int .i64 m)).heap[w.heap.size + 1]? = some (.cells zeroOb 27 (0, 0)) := by rw [blk_far (by omega), blk_far (by omega)]; exact HZ.out
        have hp := put8 hz2 (.int .i64 kd) (.bool ex) (.int .i64 ac) (.int .i64 n) (.string nm) (.int .i64 rf) (.int .i64 (fm + f)) (.int .i64 m)
        exact bodyPost_ret (results_ob2 Tryz.results70 _ _ (w.heap.size + 1) rfl rfl hp.blk) rfl ⟨rfl, below_put8 (below_set (below_set HB.out (by simp) _) (by simp) _) (by omega) hp⟩
  | some i =>
    obtain ⟨b1, b2, b3⟩ := hbd 6 i ht6
    simp only [reduceCtorEq, false_and, if_false] at hpr
    obtain ⟨kd, ex, ac, n, nm, rf, fm, ln⟩ := o
    simp only at b1 b2 b3
    obtain ⟨L, rfl⟩ : ∃ L : Nat, ln = L := ⟨ln.toNat, by omega⟩
    have HLi := Lib.hid (fun w => lies_at f m L (by omega) w)
    simp only [thP, Option.map_some, obC, zeroOb, Ob.val] at HT6 HT7 HBX HBZ hpr ⊢
    clear hbd ht7 ht6 HT7
    cases hl : liesB f m L with
    | false =>
      rw [hl] at HLi hpr
      simp only [Bool.false_eq_true, if_false] at hpr
      subst hpr
      clear hl
      go_enter Tryz.func70, Tryz.ntmps70
      go_wp2_with fail
      refine HT6.out.mono ?_; rintro e w3 ⟨rfl, hbb⟩
      have hb2 : w3.heap[w.heap.size]? = some (.cells #[.int .i64 kd, .bool ex, .int .i64 ac, .int .i64 n, .string nm, .int .i64 rf, .int .i64 fm, .int .i64 (L : Int)] 27 (0, 0)) := HBX.out w3 hbb
      have hb1 : w3.heap[w.heap.size + 1]? = some (.cells zeroOb 27 (0, 0)) := HBZ.out w3 hbb
      have HB := Lib.hid (show Below w.heap.size w w3 from bthen (below2 w _ _) hbb)
      have q0 : w3.cell? ⟨w.heap.size, 0, none⟩ = some (.int .i64 kd) := blk_cell hb2 0
      have q1 : w3.cell? ⟨w.heap.size, 1, none⟩ = some (.bool ex) := blk_cell hb2 1
      have q2 : w3.cell? ⟨w.heap.size, 2, none⟩ = some (.int .i64 ac) := blk_cell hb2 2
      have q3 : w3.cell? ⟨w.heap.size, 3, none⟩ = some (.int .i64 n) := blk_cell hb2 3
      have q4 : w3.cell? ⟨w.heap.size, 4, none⟩ = some (.string nm) := blk_cell hb2 4
      have q5 : w3.cell? ⟨w.heap.size, 5, none⟩ = some (.int .i64 rf) := blk_cell hb2 5
      have q6 : w3.cell? ⟨w.heap.size, 6, none⟩ = some (.int .i64 fm) := blk_cell hb2 6
      have q7 : w3.cell? ⟨w.heap.size, 7, none⟩ = some (.int .i64 (L : Int)) := blk_cell hb2 7
      have qf : ∀ o, w3.frozen? ⟨w.heap.size, o, none⟩ = false := blk_free hb2
      obtain ⟨d0, d1, d2, d3, d4, d5, d6, d7, df⟩ := box_cells hb1
      have HZ := Lib.hid hb1
      have HX := Lib.hid hb2
      clear hb1 hb2
      go_wp2_with fail
      refine (HLi.out _).mono ?_; rintro e w4 ⟨rfl, rfl⟩
      go_wp2_with fail
      have hp := put8 HZ.out (.int .i64 0) (.bool false) (.int .i64 0) (.int .i64 0) (.string ⟨#[]⟩) (.int .i64 0) (.int .i64 0) (.int .i64 0)
      exact bodyPost_ret (results_ob2 Tryz.results70 _ _ (w.heap.size + 1) rfl rfl hp.blk) rfl ⟨rfl, below_put8 HB.out (by omega) hp⟩
    | true =>
      have hlb := liesB_iff.1 hl
      rw [hl] at HLi hpr
      simp only [if_true] at hpr
      subst hpr
      clear hl
      go_enter Tryz.func70, Tryz.ntmps70
      go_wp2_with fail
      refine HT6.out.mono ?_; rintro e w3 ⟨rfl, hbb⟩
      have hb2 : w3.heap[w.heap.size]? = some (.cells #[.int .i64 kd, .bool ex, .int .i64 ac, .int .i64 n, .string nm, .int .i64 rf, .int .i64 fm, .int .i64 (L : Int)] 27 (0, 0)) := HBX.out w3 hbb
      have hb1 : w3.heap[w.heap.size + 1]? = some (.cells zeroOb 27 (0, 0)) := HBZ.out w3 hbb
      have HB := Lib.hid (show Below w.heap.size w w3 from bthen (below2 w _ _) hbb)
      have q0 : w3.cell? ⟨w.heap.size, 0, none⟩ = some (.int .i64 kd) := blk_cell hb2 0
      have q1 : w3.cell? ⟨w.heap.size, 1, none⟩ = some (.bool ex) := blk_cell hb2 1
      have q2 : w3.cell? ⟨w.heap.size, 2, none⟩ = some (.int .i64 ac) := blk_cell hb2 2
      have q3 : w3.cell? ⟨w.heap.size, 3, none⟩ = some (.int .i64 n) := blk_cell hb2 3
      have q4 : w3.cell? ⟨w.heap.size, 4, none⟩ = some (.string nm) := blk_cell hb2 4
      have q5 : w3.cell? ⟨w.heap.size, 5, none⟩ = some (.int .i64 rf) := blk_cell hb2 5
      have q6 : w3.cell? ⟨w.heap.size, 6, none⟩ = some (.int .i64 fm) := blk_cell hb2 6
      have q7 : w3.cell? ⟨w.heap.size, 7, none⟩ = some (.int .i64 (L : Int)) := blk_cell hb2 7
      have qf : ∀ o, w3.frozen? ⟨w.heap.size, o, none⟩ = false := blk_free hb2
      obtain ⟨d0, d1, d2, d3, d4, d5, d6, d7, df⟩ := box_cells hb1
      have HZ := Lib.hid hb1
      have HX := Lib.hid hb2
      clear hb1 hb2
      go_wp2_with fail
      refine (HLi.out _).mono ?_; rintro e w4 ⟨rfl, rfl⟩
      go_wp2_with fail
      have hz2 : ((w4.setCell ⟨w.heap.size, 6, none⟩ (.int .i64 (fm + f))).setCell ⟨w.heap.size, 7, none⟩ (.int .i64 m)).heap[w.heap.size + 1]? = some (.cells zeroOb 27 (0, 0)) := by rw [blk_far (by omega), blk_far (by omega)]; exact HZ.out
      have hp := put8 hz2 (.int .i64 kd) (.bool ex) (.int .i64 ac) (.int .i64 n) (.string nm) (.int .i64 rf) (.int .i64 (fm + f)) (.int .i64 m)
      exact bodyPost_ret (results_ob2 Tryz.results70 _ _ (w.heap.size + 1) rfl rfl hp.blk) rfl ⟨rfl, below_put8 (below_set (below_set HB.out (by simp) _) (by simp) _) (by omega) hp⟩
end Go.Proofs.YtfilbfenpdaahaaGreatDoor
namespace Go.Proofs.YtfilbfenpdaahaaGreatDoor
open Go.RowKit
open St
/-- behind Put: x has come to its place, or why not -/
def PutP (O : Nat → Prop) (w : World) (s : Nat) (fr : Int) (G : List (Th × Lay)) (o : Ob) (i : Int) (x : Ob) (e : Ending) (w' : World) : Prop :=
  e = .returned (.int .i64 (putE G o i x)) ∧ ((putE G o i x ≠ 0 ∧ Below w.heap.size w w') ∨ (putE G o i x = 0 ∧ ∃ t, tld G o 7 = some t ∧ Rep O w' s fr (putG G t (o.frm + i).toNat x) ∧ Frm O w w'))
theorem frm_set8 {O : Nat → Prop} {w w2 : World} {B o : Nat} {x : Ob} (hb : Below w.heap.size w w2) (hO : O B) : Frm O w (set8 w2 B o x) := by
  obtain ⟨e1, e2, e3⟩ := set8_env w2 B o x
  exact ⟨e1.trans hb.os, e2.trans hb.tape, e3.trans hb.output, by rw [set8_size]; exact hb.size, fun k hk hk2 => (set8_far (fun e => hk2 (by rw [e]; exact hO))).trans (hb.block k hk)⟩
theorem two_boxes {w w3 : World} {o x : Ob} (h : Below ((w.alloc (obC o)).alloc (obC x)).heap.size ((w.alloc (obC o)).alloc (obC x)) w3) : w3.heap[w.heap.size]? = some (obC o) ∧ w3.heap[w.heap.size + 1]? = some (obC x) := below_z h
theorem items_len {x : Th} (h : x.kind = 7) : x.length = x.items.length := by unfold Th.length; rw [if_neg (by omega), if_pos h]
end Go.Proofs.YtfilbfenpdaahaaGreatDoor
