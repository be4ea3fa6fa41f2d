/-
  New stores and new things, by contracts: New, Free, Array, Text, String, Dict.
-/
import Derived.Test.YtfilbfenpdaahaaGreatDoorStoRow
namespace Go.Proofs.YtfilbfenpdaahaaGreatDoor
open Go.RowKit
open St
/-- the store at a new block, with nothing in it -/
theorem rep_new (w : World) (c : Int) (h0 : 0 ≤ c) (h1 : c ≤ 1048576) : Rep (fun k => k = w.heap.size) (w.alloc (.cells #[.slice none 0 0, .int .i64 0, .int .i64 c, .slice none 0 0, .int .i64 0, .slice none 0 0] 63)) w.heap.size c [] := by
  refine ⟨rfl, fun k hk => by simp [hk], ⟨.slice none 0 0, none, 0, none, 0, heap_alloc_new w _, World.ownsRow_nil _ _ _ _, fun k hk => by cases hk⟩, fun i x hx => by simp at hx, fun i j x y _ hx => by simp at hx, h0, by simp; omega⟩
theorem new_at (c : Int) (w : World) (h1 : 1 ≤ c) (h2 : c ≤ 1048576) :
    Calls Tryz.prog 6 #[.int .i64 c] w fun e w' => e = .returned (.tuple #[.pointer (some ⟨w.heap.size, 0, none⟩), .int .i64 0]) ∧ Rep (fun k => k = w.heap.size) w' w.heap.size c [] ∧ Below w.heap.size w w' := by
  have HR := Lib.hid (rep_new w c (by omega) h2)
  go_enter Tryz.func6, Tryz.ntmps6
  go_wp2_with fail
  exact bodyPost_ret (v := .tuple #[.pointer (some ⟨w.heap.size, 0, none⟩), .int .i64 0]) (by simp [results, Tryz.results6, go_sem]) rfl ⟨rfl, HR.out, below1 w _⟩
theorem new_no (c : Int) (w : World) (h : c < 1 ∨ 1048576 < c) :
    Calls Tryz.prog 6 #[.int .i64 c] w fun e w' => e = .returned (.tuple #[.pointer none, .int .i64 21]) ∧ w' = w := by
  by_cases h1 : c < 1
  · clear h
    go_enter Tryz.func6, Tryz.ntmps6
    go_wp2_with fail
    exact bodyPost_ret (v := .tuple #[.pointer none, .int .i64 21]) (by simp [results, Tryz.results6, go_sem]) rfl ⟨rfl, rfl⟩
  · have h2 : 1048576 < c := by omega
    clear h
    go_enter Tryz.func6, Tryz.ntmps6
    go_wp2_with fail
    exact bodyPost_ret (v := .tuple #[.pointer none, .int .i64 21]) (by simp [results, Tryz.results6, go_sem]) rfl ⟨rfl, rfl⟩
/-- cells are taken: what is left -/
theorem rep_claim {O : Nat → Prop} {w : World} {s : Nat} {fr fr' : Int} {G : List (Th × Lay)} (h : Rep O w s fr G) (h0 : 0 ≤ fr') (h1 : fr' ≤ fr) : Rep O (w.setCell ⟨s, 2, none⟩ (.int .i64 fr')) s fr' G := by
  obtain ⟨tv, am, cm, ac, cc, hb, ht, ho⟩ := h.blk
  have hk : ∀ {n size : Nat} {e : TypeId} {v : Value} {xs : List Value}, w.ownsRow 0 e size v n xs → 63 ≠ e → (w.setCell ⟨s, 2, none⟩ (.int .i64 fr')).ownsRow 0 e size v n xs := fun hr hne =>
    owns_same hr (fun k hk => blk_far (fun e1 => own_ne hb hr hne (by rw [← e1]; exact hk.symm)) _)
  refine ⟨h.os, fun k ho => by rw [setC_size]; exact h.olt k ho, ⟨tv, am, cm, ac, cc, blk_set hb 2 _, hk ht (by decide), ho⟩, fun i x hx => ?_, h.apart, h0, by have := h.few; omega⟩
  have hr := h.row i x hx
  exact ⟨hk hr.rb (by decide), hk hr.ri (by decide), hk hr.rp (by decide), hr.ob, hr.oi, hr.op, hr.nb, hr.ni, hr.np, hr.nm⟩
/-- what a call that makes a thing leaves: the thing is the last one, or there is none and why -/
def Made (O : Nat → Prop) (w : World) (s : Nat) (fr : Int) (G : List (Th × Lay)) (t : Th) (k n : Int) (e : Ending) (w' : World) : Prop :=
  (clm k n fr ≠ 0 ∧ e = .returned (.tuple #[nul.val, .int .i64 (clm k n fr)]) ∧ Below w.heap.size w w') ∨
  (clm k n fr = 0 ∧ e = .returned (.tuple #[(newOb t G.length).val, .int .i64 0]) ∧ ∃ l, Rep (Up O w w') w' s (fr - cellsI k n) (G ++ [(t, l)]) ∧ Frm O w w')
theorem clm_zero {k n fr : Int} (h : clm k n fr = 0) : 0 ≤ n ∧ n ≤ mostI k ∧ cellsI k n ≤ fr := by
  unfold clm at h
  split at h
  · cases h
  · split at h
    · cases h
    · split at h
      · cases h
      · omega
theorem fresh_apart {O : Nat → Prop} {w : World} {s : Nat} {fr : Int} {G : List (Th × Lay)} {l : Lay} (h : Rep O w s fr G) (hl : ∀ k, isB l.b k ∨ isB l.i k ∨ isB l.p k → w.heap.size ≤ k) (i : Nat) (x : Th × Lay) (hx : G[i]? = some x) : apartL x.2 l := by
  have hr := h.row i x hx
  intro k
  exact ⟨fun a b => by have := hr.lt (.inl a); have := hl k (.inl b); omega, fun a b => by have := hr.lt (.inr (.inl a)); have := hl k (.inr (.inl b)); omega, fun a b => by have := hr.lt (.inr (.inr a)); have := hl k (.inr (.inr b)); omega⟩
theorem claim_rep {O : Nat → Prop} {w : World} {s : Nat} {fr : Int} {G : List (Th × Lay)} (h : Rep O w s fr G) (k n : Int) :
    Calls Tryz.prog 15 #[.pointer (some ⟨s, 0, none⟩), .int .i64 k, .int .i64 n] w fun e w' => e = .returned (.int .i64 (clm k n fr)) ∧ w' = if clm k n fr = 0 then w.setCell ⟨s, 2, none⟩ (.int .i64 (fr - cellsI k n)) else w := by
  obtain ⟨tv, am, cm, ac, cc, ⟨_, _, c2, _⟩, _, hf⟩ := h.cells
  exact claim_at c2 (hf 2) h.fr0 (by have := h.few; omega)
theorem claimed {O : Nat → Prop} {w : World} {s : Nat} {fr k n : Int} {G : List (Th × Lay)} (h : Rep O w s fr G) (hc : clm k n fr = 0) (hm : mostI k ≤ 65535) : Rep O (w.setCell ⟨s, 2, none⟩ (.int .i64 (fr - cellsI k n))) s (fr - cellsI k n) G ∧ (G.length : Int) + (fr - cellsI k n) + 1 ≤ 1048576 := by
  obtain ⟨h0, h1, h2⟩ := clm_zero hc
  obtain ⟨m, rfl⟩ : ∃ m : Nat, n = m := ⟨n.toNat, by omega⟩
  have hb := cellsI_bounds (k := k) (n := m) (by omega)
  exact ⟨rep_claim h (by omega) (by omega), by have := h.few; omega⟩
theorem frm_set {O : Nat → Prop} {w w' : World} {s : Nat} {v : Value} (hs : O s) (h : Frm O (w.setCell ⟨s, 2, none⟩ v) w') : Frm O w w' :=
  ⟨h.os, h.tape, h.output, by have := h.size; rwa [setC_size] at this, fun k hk hO => (h.block k (by rwa [setC_size]) hO).trans (blk_far (fun e => hO (by rw [e]; exact hs)) _)⟩
/-- behind a claim, with the result's box made ahead of it -/
def afterC (w : World) (s : Nat) (v : Int) : World := (w.alloc (.cells zeroOb 27)).setCell ⟨s, 2, none⟩ (.int .i64 v)
theorem afterC_size (w : World) (s : Nat) (v : Int) : (afterC w s v).heap.size = w.heap.size + 1 := by unfold afterC; rw [setC_size]; simp
/-- a thing whose rows are new is held: and where the result's box is written behind it, the store has it -/
theorem ready_call {O : Nat → Prop} {w w3 : World} {s : Nat} {fr k n : Int} {G : List (Th × Lay)} {t : Th} {l : Lay} (h : Rep O w s fr G) (hc : clm k n fr = 0) (hm : mostI k ≤ 65535) (h23 : Below (w.heap.size + 1) (afterC w s (fr - cellsI k n)) w3)
    (hT : ThR (fun k => w.heap.size + 1 ≤ k ∧ k < w3.heap.size) w3 t l) :
    Calls Tryz.prog 16 #[.pointer (some ⟨s, 0, none⟩), thV t l] w3 fun e w4 => e = .returned (newOb t G.length).val ∧ w4.heap[w.heap.size]? = some (.cells zeroOb 27 (0, 0)) ∧
      ∀ v0 v1 v2 v3 v4 v5 v6 v7 w5, Put8 w4 w.heap.size 27 v0 v1 v2 v3 v4 v5 v6 v7 w5 → ∃ l, Rep (Up O w w5) w5 s (fr - cellsI k n) (G ++ [(t, l)]) ∧ Frm O w w5 := by
  have hR0 := h.below (below1 w (.cells zeroOb 27))
  obtain ⟨hR1, hfew⟩ := claimed hR0 hc hm
  have hs2 := afterC_size w s (fr - cellsI k n)
  have hsl : s < w.heap.size := h.lt
  have h3s : w.heap.size + 1 ≤ w3.heap.size := by have := h23.size; omega
  have hR3 : Rep O w3 s (fr - cellsI k n) G := by
    refine hR1.below ?_
    have : (w.alloc (.cells zeroOb 27)).setCell ⟨s, 2, none⟩ (.int .i64 (fr - cellsI k n)) = afterC w s (fr - cellsI k n) := rfl
    rw [this, hs2]; exact h23
  have hR3' := hR3.mono (O' := fun k => O k ∨ (w.heap.size + 1 ≤ k ∧ k < w3.heap.size)) (fun _ _ e => .inl e) (fun k e => by rcases e with e | e; exact hR3.olt k e; exact e.2)
  have hB3 : w3.heap[w.heap.size]? = some (.cells zeroOb 27 (0, 0)) := by
    rw [h23.block _ (by omega)]
    unfold afterC
    rw [blk_far (by omega)]
    exact heap_alloc_new w _
  have hF3 : ∀ k, k < w.heap.size → ¬ O k → w3.heap[k]? = w.heap[k]? := fun k hk hO => by
    rw [h23.block k (by omega)]
    unfold afterC
    rw [blk_far (fun e => hO (by rw [e]; exact h.os)), heap_alloc_old _ _ hk]
  refine (hold_rep hR3' (hT.mono (fun k _ e => .inr e)) (fun i x hx => ?_) (by omega)).mono ?_
  · have hr := (h.row i x hx)
    intro q
    exact ⟨fun a b => by have := hr.lt (.inl a); have := hT.ob q b; omega, fun a b => by have := hr.lt (.inr (.inl a)); have := hT.oi q b; omega, fun a b => by have := hr.lt (.inr (.inr a)); have := hT.op q b; omega⟩
  · rintro e w4 ⟨rfl, hR4, hF4⟩
    have hBO : ¬ (O w.heap.size ∨ (w.heap.size + 1 ≤ w.heap.size ∧ w.heap.size < w3.heap.size)) := by
      rintro (e | e)
      · have := h.olt _ e; omega
      · omega
    refine ⟨rfl, (hF4.block _ (by omega) hBO).trans hB3, fun v0 v1 v2 v3 v4 v5 v6 v7 w5 hp => ⟨l, ?_, ?_⟩⟩
    · refine (hR4.same (by rw [hp.size]; exact Nat.le_refl _) (fun k _ hk => hp.far k (fun e => ?_))).mono (fun k _ hk => ?_) (fun k hk => ?_)
      · subst e
        rcases hk with e | e
        · exact hBO e
        · omega
      · rcases hk with (e | e) | e
        · exact .inl e
        · exact .inr ⟨by omega, by rw [hp.size]; have := hF4.size; omega⟩
        · exact .inr ⟨by omega, by rw [hp.size]; exact e.2⟩
      · rcases hk with e | e
        · have := h.olt k e; rw [hp.size]; have := hF4.size; omega
        · exact e.2
    · refine ⟨hp.os.trans (hF4.os.trans h23.os), hp.tape.trans (hF4.tape.trans h23.tape), hp.output.trans (hF4.output.trans h23.output), by rw [hp.size]; have := hF4.size; omega, fun k hk hO => ?_⟩
      rw [hp.far k (by omega), hF4.block k (by omega) (by rintro (e | e); exact hO e; omega), hF3 k hk hO]
end Go.Proofs.YtfilbfenpdaahaaGreatDoor
