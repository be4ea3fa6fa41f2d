/-
  New things, by contracts: Array, String, Text, Dict.
-/
import Derived.Test.YtfilbfenpdaahaaGreatDoorStoNew
namespace Go.Proofs.YtfilbfenpdaahaaGreatDoor
open Go.RowKit
open St
theorem nulls_size (m : Nat) : (nulls m).size = m * 9 := by
  rw [← Array.length_toList, nulls_list]
  induction m with
  | zero => rfl
  | succ m ih => rw [List.replicate_succ, List.flatMap_cons, List.length_append, ih]; simp [slotC]; omega
theorem zeros_size (m : Nat) : (zeros m).size = m := by rw [← Array.length_toList, zeros_list]; simp
theorem no_own {k : Nat} {O : Nat → Prop} (h : isB (.slice none 0 0) k) : O k := by cases h
theorem the_own {O : Nat → Prop} {B n c : Nat} (hO : O B) (k : Nat) (h : isB (.slice (some ⟨B, 0, none⟩) n c) k) : O k := by
  have : B = k := by simpa [isB, Value.ownBlock] using h
  exact this ▸ hO
theorem row_slots {O : Nat → Prop} {w : World} {B m : Nat} (h : w.heap[B]? = some (.cells (nulls m) 110 (0, 0))) (hm : m ≤ 65535) (hO : O B) : ThR O w ⟨7, [], List.replicate m nul, [], 0, 0⟩ ⟨.slice none 0 0, .slice (some ⟨B, 0, none⟩) m m, .slice none 0 0⟩ := by
  have hr := own_of_block (size := 9) h hm (nulls_size m)
  rw [nulls_list] at hr
  exact ⟨World.ownsRow_nil _ _ _ _, by simpa using hr, World.ownsRow_nil _ _ _ _, fun k hk => no_own hk, the_own hO, fun k hk => no_own hk, by simp, by simpa using hm, by simp, by simp⟩
theorem row_bytes {O : Nat → Prop} {w : World} {B : Nat} {b : List UInt8} (h : w.heap[B]? = some (.cells (b.map bv).toArray 5 (0, 0))) (hm : b.length ≤ 65535) (hO : O B) : ThR O w ⟨6, b, [], [], 0, 0⟩ ⟨.slice (some ⟨B, 0, none⟩) b.length b.length, .slice none 0 0, .slice none 0 0⟩ := by
  have hr := own_of_block (size := 1) h hm (by simp)
  exact ⟨by simpa using hr, World.ownsRow_nil _ _ _ _, World.ownsRow_nil _ _ _ _, the_own hO, fun k hk => no_own hk, fun k hk => no_own hk, hm, by simp, by simp, by simp⟩
theorem row_dict (O : Nat → Prop) (w : World) (n : Int) (h0 : 0 ≤ n) (h1 : n ≤ 4096) : ThR O w ⟨8, [], [], [], n, 0⟩ ⟨.slice none 0 0, .slice none 0 0, .slice none 0 0⟩ :=
  ⟨World.ownsRow_nil _ _ _ _, World.ownsRow_nil _ _ _ _, World.ownsRow_nil _ _ _ _, fun k hk => no_own hk, fun k hk => no_own hk, fun k hk => no_own hk, by simp, by simp, by simp, by simpa using ⟨h0, h1⟩⟩
theorem claim_ok {O : Nat → Prop} {w : World} {s : Nat} {fr k n : Int} {G : List (Th × Lay)} (h : Rep O w s fr G) (hc : clm k n fr = 0) :
    Calls Tryz.prog 15 #[.pointer (some ⟨s, 0, none⟩), .int .i64 k, .int .i64 n] (w.alloc (.cells #[.int .i64 0, .bool false, .int .i64 0, .int .i64 0, .string ⟨#[]⟩, .int .i64 0, .int .i64 0, .int .i64 0] 27)) fun e w' => e = .returned (.int .i64 0) ∧ w' = afterC w s (fr - cellsI k n) := by
  have hR0 := h.below (below1 w (.cells zeroOb 27))
  have := claim_rep hR0 k n
  rw [hc, if_pos rfl] at this
  exact this
theorem claim_not {O : Nat → Prop} {w : World} {s : Nat} {fr k n : Int} {G : List (Th × Lay)} (h : Rep O w s fr G) (hc : clm k n fr ≠ 0) :
    Calls Tryz.prog 15 #[.pointer (some ⟨s, 0, none⟩), .int .i64 k, .int .i64 n] (w.alloc (.cells #[.int .i64 0, .bool false, .int .i64 0, .int .i64 0, .string ⟨#[]⟩, .int .i64 0, .int .i64 0, .int .i64 0] 27)) fun e w' => e = .returned (.int .i64 (clm k n fr)) ∧ w' = w.alloc (.cells #[.int .i64 0, .bool false, .int .i64 0, .int .i64 0, .string ⟨#[]⟩, .int .i64 0, .int .i64 0, .int .i64 0] 27) := by
  have hR0 := h.below (below1 w (.cells zeroOb 27))
  have := claim_rep hR0 k n
  rw [if_neg hc] at this
  exact this
theorem box_cells {w : World} {B : Nat} (h : w.heap[B]? = some (.cells zeroOb 27 (0, 0))) : w.cell? ⟨B, 0, none⟩ = some (.int .i64 0) ∧ w.cell? ⟨B, 1, none⟩ = some (.bool false) ∧ w.cell? ⟨B, 2, none⟩ = some (.int .i64 0) ∧ w.cell? ⟨B, 3, none⟩ = some (.int .i64 0) ∧ w.cell? ⟨B, 4, none⟩ = some (.string ⟨#[]⟩) ∧ w.cell? ⟨B, 5, none⟩ = some (.int .i64 0) ∧ w.cell? ⟨B, 6, none⟩ = some (.int .i64 0) ∧ w.cell? ⟨B, 7, none⟩ = some (.int .i64 0) ∧ ∀ o, w.frozen? ⟨B, o, none⟩ = false :=
  ⟨blk_cell h 0, blk_cell h 1, blk_cell h 2, blk_cell h 3, blk_cell h 4, blk_cell h 5, blk_cell h 6, blk_cell h 7, blk_free h⟩
theorem row_zeros {O : Nat → Prop} {w : World} {B m : Nat} (h : w.heap[B]? = some (.cells (zeros m) 5 (0, 0))) (hm : m ≤ 65535) (hO : O B) : ThR O w ⟨6, List.replicate m 0, [], [], 0, 0⟩ ⟨.slice (some ⟨B, 0, none⟩) m m, .slice none 0 0, .slice none 0 0⟩ := by
  have hz : (zeros m) = ((List.replicate m (0 : UInt8)).map bv).toArray := by rw [← zeros_list]
  rw [hz] at h
  have := row_bytes h (by simpa using hm) hO
  simpa using this
set_option maxRecDepth 100000 in
set_option maxHeartbeats 2000000 in
theorem array_at {O : Nat → Prop} {w : World} {s : Nat} {fr : Int} {G : List (Th × Lay)} (h : Rep O w s fr G) (n : Int) :
    Calls Tryz.prog 25 #[.pointer (some ⟨s, 0, none⟩), .int .i64 n] w (Made O w s fr G ⟨7, [], List.replicate n.toNat nul, [], 0, 0⟩ 7 n) := by
  by_cases hc : clm 7 n fr = 0
  · obtain ⟨m, rfl⟩ : ∃ m : Nat, n = m := ⟨n.toNat, by have := clm_zero hc; omega⟩
    have hm : m ≤ 65535 := by have := (clm_zero hc).2.1; unfold mostI at this; simp at this; omega
    have HC := Lib.hid (claim_ok h hc)
    have HM := Lib.hid (show ∀ e w', (e = Ending.returned (.tuple #[(newOb ⟨7, [], List.replicate m nul, [], 0, 0⟩ G.length).val, .int .i64 0]) ∧ ∃ l, Rep (Up O w w') w' s (fr - cellsI 7 m) (G ++ [(⟨7, [], List.replicate m nul, [], 0, 0⟩, l)]) ∧ Frm O w w') → Made O w s fr G ⟨7, [], List.replicate (m : Int).toNat nul, [], 0, 0⟩ 7 m e w' from fun e w' hh => .inr ⟨hc, by simpa using hh⟩)
    have hs2 := afterC_size w s (fr - cellsI 7 m)
    have hRC := ready_call (t := ⟨7, [], List.replicate m nul, [], 0, 0⟩) (l := ⟨.slice none 0 0, .slice (some ⟨w.heap.size + 1, 0, none⟩) m m, .slice none 0 0⟩) (w3 := (afterC w s (fr - cellsI 7 m)).alloc (.cells (nulls m) 110)) h hc (by decide) (by have := below1 (afterC w s (fr - cellsI 7 m)) (.cells (nulls m) 110); rw [hs2] at this; exact this) (row_slots (alloc_at hs2) hm ⟨Nat.le_refl _, by simp [hs2]⟩)
    unfold thV at hRC
    have HR := Lib.hid hRC
    have hmk := make_slots m hm
    clear hc hRC h
    go_enter Tryz.func25, Tryz.ntmps25
    go_wp2_with fail
    refine HC.out.mono ?_; rintro e w2 ⟨rfl, rfl⟩
    go_wp2_with fail
    refine HR.out.mono ?_; rintro e w4 ⟨rfl, hB, hfin⟩
    obtain ⟨d0, d1, d2, d3, d4, d5, d6, d7, df⟩ := box_cells hB
    have HB := Lib.hid hB
    have HF := Lib.hid hfin
    clear hB hfin hmk
    simp only [newOb, Ob.val]
    go_wp2_with fail
    have hp := put8 HB.out (.int .i64 7) (.bool false) (.int .i64 0) (.int .i64 0) (.string ⟨#[]⟩) (.int .i64 ((G.length : Int) + 1)) (.int .i64 0) (.int .i64 (Th.length ⟨7, [], List.replicate m nul, [], 0, 0⟩))
    exact bodyPost_ret (results_ob2 Tryz.results25 _ _ w.heap.size rfl rfl hp.blk) rfl (HM.out _ _ ⟨rfl, HF.out _ _ _ _ _ _ _ _ _ hp⟩)
  · have hcn : (clm 7 n fr != 0) = true := by simp [hc]
    have HC := Lib.hid (claim_not h hc)
    have HM := Lib.hid (show ∀ e w', (e = Ending.returned (.tuple #[nul.val, .int .i64 (clm 7 n fr)]) ∧ Below w.heap.size w w') → Made O w s fr G ⟨7, [], List.replicate n.toNat nul, [], 0, 0⟩ 7 n e w' from fun e w' hh => .inl ⟨hc, hh⟩)
    clear hc h
    go_enter Tryz.func25, Tryz.ntmps25
    go_wp2_with fail
    refine HC.out.mono ?_; rintro e w2 ⟨rfl, rfl⟩
    go_wp2_with fail
    exact bodyPost_ret (results_ob2 Tryz.results25 _ _ w.heap.size rfl rfl (heap_alloc_new w _)) rfl (HM.out _ _ ⟨rfl, below1 w _⟩)
set_option maxRecDepth 100000 in
set_option maxHeartbeats 2000000 in
theorem string_at {O : Nat → Prop} {w : World} {s : Nat} {fr : Int} {G : List (Th × Lay)} (h : Rep O w s fr G) (n : Int) :
    Calls Tryz.prog 7 #[.pointer (some ⟨s, 0, none⟩), .int .i64 n] w (Made O w s fr G ⟨6, List.replicate n.toNat 0, [], [], 0, 0⟩ 6 n) := by
  by_cases hc : clm 6 n fr = 0
  · obtain ⟨m, rfl⟩ : ∃ m : Nat, n = m := ⟨n.toNat, by have := clm_zero hc; omega⟩
    have hm : m ≤ 65535 := by have := (clm_zero hc).2.1; unfold mostI at this; simp at this; omega
    have HC := Lib.hid (claim_ok h hc)
    have HM := Lib.hid (show ∀ e w', (e = Ending.returned (.tuple #[(newOb ⟨6, List.replicate m 0, [], [], 0, 0⟩ G.length).val, .int .i64 0]) ∧ ∃ l, Rep (Up O w w') w' s (fr - cellsI 6 m) (G ++ [(⟨6, List.replicate m 0, [], [], 0, 0⟩, l)]) ∧ Frm O w w') → Made O w s fr G ⟨6, List.replicate (m : Int).toNat 0, [], [], 0, 0⟩ 6 m e w' from fun e w' hh => .inr ⟨hc, by simpa using hh⟩)
    have hs2 := afterC_size w s (fr - cellsI 6 m)
    have hRC := ready_call (t := ⟨6, List.replicate m 0, [], [], 0, 0⟩) (l := ⟨.slice (some ⟨w.heap.size + 1, 0, none⟩) m m, .slice none 0 0, .slice none 0 0⟩) (w3 := (afterC w s (fr - cellsI 6 m)).alloc (.cells (zeros m) 5)) h hc (by decide) (by have := below1 (afterC w s (fr - cellsI 6 m)) (.cells (zeros m) 5); rw [hs2] at this; exact this) (row_zeros (alloc_at hs2) hm ⟨Nat.le_refl _, by simp [hs2]⟩)
    unfold thV at hRC
    have HR := Lib.hid hRC
    have hmk := make_bytes m hm
    clear hc hRC h
    go_enter Tryz.func7, Tryz.ntmps7
    go_wp2_with fail
    refine HC.out.mono ?_; rintro e w2 ⟨rfl, rfl⟩
    go_wp2_with fail
    refine HR.out.mono ?_; rintro e w4 ⟨rfl, hB, hfin⟩
    obtain ⟨d0, d1, d2, d3, d4, d5, d6, d7, df⟩ := box_cells hB
    have HB := Lib.hid hB
    have HF := Lib.hid hfin
    clear hB hfin hmk
    simp only [newOb, Ob.val]
    go_wp2_with fail
    have hp := put8 HB.out (.int .i64 6) (.bool false) (.int .i64 0) (.int .i64 0) (.string ⟨#[]⟩) (.int .i64 ((G.length : Int) + 1)) (.int .i64 0) (.int .i64 (Th.length ⟨6, List.replicate m 0, [], [], 0, 0⟩))
    exact bodyPost_ret (results_ob2 Tryz.results7 _ _ w.heap.size rfl rfl hp.blk) rfl (HM.out _ _ ⟨rfl, HF.out _ _ _ _ _ _ _ _ _ hp⟩)
  · have hcn : (clm 6 n fr != 0) = true := by simp [hc]
    have HC := Lib.hid (claim_not h hc)
    have HM := Lib.hid (show ∀ e w', (e = Ending.returned (.tuple #[nul.val, .int .i64 (clm 6 n fr)]) ∧ Below w.heap.size w w') → Made O w s fr G ⟨6, List.replicate n.toNat 0, [], [], 0, 0⟩ 6 n e w' from fun e w' hh => .inl ⟨hc, hh⟩)
    clear hc h
    go_enter Tryz.func7, Tryz.ntmps7
    go_wp2_with fail
    refine HC.out.mono ?_; rintro e w2 ⟨rfl, rfl⟩
    go_wp2_with fail
    exact bodyPost_ret (results_ob2 Tryz.results7 _ _ w.heap.size rfl rfl (heap_alloc_new w _)) rfl (HM.out _ _ ⟨rfl, below1 w _⟩)
set_option maxRecDepth 100000 in
set_option maxHeartbeats 2000000 in
theorem dict_at {O : Nat → Prop} {w : World} {s : Nat} {fr : Int} {G : List (Th × Lay)} (h : Rep O w s fr G) (n : Int) :
    Calls Tryz.prog 27 #[.pointer (some ⟨s, 0, none⟩), .int .i64 n] w (Made O w s fr G ⟨8, [], [], [], n, 0⟩ 8 n) := by
  by_cases hc : clm 8 n fr = 0
  · obtain ⟨m, rfl⟩ : ∃ m : Nat, n = m := ⟨n.toNat, by have := clm_zero hc; omega⟩
    have hm : m ≤ 4096 := by have := (clm_zero hc).2.1; unfold mostI at this; simp at this; omega
    have HC := Lib.hid (claim_ok h hc)
    have HM := Lib.hid (show ∀ e w', (e = Ending.returned (.tuple #[(newOb ⟨8, [], [], [], m, 0⟩ G.length).val, .int .i64 0]) ∧ ∃ l, Rep (Up O w w') w' s (fr - cellsI 8 m) (G ++ [(⟨8, [], [], [], m, 0⟩, l)]) ∧ Frm O w w') → Made O w s fr G ⟨8, [], [], [], m, 0⟩ 8 m e w' from fun e w' hh => .inr ⟨hc, by simpa using hh⟩)
    have hs2 := afterC_size w s (fr - cellsI 8 m)
    have hRC := ready_call (t := ⟨8, [], [], [], m, 0⟩) (l := ⟨.slice none 0 0, .slice none 0 0, .slice none 0 0⟩) (w3 := afterC w s (fr - cellsI 8 m)) h hc (by decide) (Below.refl _ _) (row_dict _ _ _ (by omega) (by omega))
    unfold thV at hRC
    have HR := Lib.hid hRC
    clear hc hRC h
    go_enter Tryz.func27, Tryz.ntmps27
    go_wp2_with fail
    refine HC.out.mono ?_; rintro e w2 ⟨rfl, rfl⟩
    go_wp2_with fail
    refine HR.out.mono ?_; rintro e w4 ⟨rfl, hB, hfin⟩
    obtain ⟨d0, d1, d2, d3, d4, d5, d6, d7, df⟩ := box_cells hB
    have HB := Lib.hid hB
    have HF := Lib.hid hfin
    clear hB hfin
    simp only [newOb, Ob.val]
    go_wp2_with fail
    have hp := put8 HB.out (.int .i64 8) (.bool false) (.int .i64 0) (.int .i64 0) (.string ⟨#[]⟩) (.int .i64 ((G.length : Int) + 1)) (.int .i64 0) (.int .i64 (Th.length ⟨8, [], [], [], m, 0⟩))
    exact bodyPost_ret (results_ob2 Tryz.results27 _ _ w.heap.size rfl rfl hp.blk) rfl (HM.out _ _ ⟨rfl, HF.out _ _ _ _ _ _ _ _ _ hp⟩)
  · have hcn : (clm 8 n fr != 0) = true := by simp [hc]
    have HC := Lib.hid (claim_not h hc)
    have HM := Lib.hid (show ∀ e w', (e = Ending.returned (.tuple #[nul.val, .int .i64 (clm 8 n fr)]) ∧ Below w.heap.size w w') → Made O w s fr G ⟨8, [], [], [], n, 0⟩ 8 n e w' from fun e w' hh => .inl ⟨hc, hh⟩)
    clear hc h
    go_enter Tryz.func27, Tryz.ntmps27
    go_wp2_with fail
    refine HC.out.mono ?_; rintro e w2 ⟨rfl, rfl⟩
    go_wp2_with fail
    exact bodyPost_ret (results_ob2 Tryz.results27 _ _ w.heap.size rfl rfl (heap_alloc_new w _)) rfl (HM.out _ _ ⟨rfl, below1 w _⟩)
theorem src_afterC {O : Nat → Prop} {w : World} {s : Nat} {fr : Int} {G : List (Th × Lay)} {a : Option Addr} {b : List UInt8} (hS : Src w a b) (h : Rep O w s fr G) (v : Int) : Src (afterC w s v) a b := by
  rcases hS with e | ⟨ad, e, hc⟩
  · exact .inl e
  · refine .inr ⟨ad, e, fun j z hz => ?_⟩
    have h0 := hc j z hz
    have hlt := World.block_lt_of_cell? w _ h0
    obtain ⟨tv, am, cm, ac, cc, hb, ht, _⟩ := h.blk
    obtain ⟨ta, tc, rfl⟩ := own_slice ht
    unfold afterC
    by_cases hs : (ad.add j).block = s
    · exfalso
      generalize ad.add j = p at h0 hlt hs
      obtain ⟨bb, off, sp⟩ := p
      have hs2 : bb = s := hs
      subst hs2
      have hsp : sp = none := World.cell?_spot h0
      subst hsp
      rw [blk_cell hb off] at h0
      rcases off with _ | _ | _ | _ | _ | _ | off <;> simp [bv] at h0
    · rw [World.cell?_of_block (w := w.alloc (.cells zeroOb 27)) (Below.heap_setCell _ _ _ _ hs), World.cell?_alloc_lt _ _ _ hlt]; exact h0
set_option maxRecDepth 100000 in
set_option maxHeartbeats 2000000 in
theorem text_at {O : Nat → Prop} {w : World} {s c : Nat} {fr : Int} {G : List (Th × Lay)} {a : Option Addr} {b : List UInt8} (h : Rep O w s fr G) (hS : Src w a b) :
    Calls Tryz.prog 12 #[.pointer (some ⟨s, 0, none⟩), .slice a b.length c] w (Made O w s fr G ⟨6, b, [], [], 0, 0⟩ 6 b.length) := by
  by_cases hc : clm 6 b.length fr = 0
  · have hm : b.length ≤ 65535 := by have := (clm_zero hc).2.1; unfold mostI at this; simp at this; omega
    have HC := Lib.hid (claim_ok h hc)
    have HM := Lib.hid (show ∀ e w', (e = Ending.returned (.tuple #[(newOb ⟨6, b, [], [], 0, 0⟩ G.length).val, .int .i64 0]) ∧ ∃ l, Rep (Up O w w') w' s (fr - cellsI 6 b.length) (G ++ [(⟨6, b, [], [], 0, 0⟩, l)]) ∧ Frm O w w') → Made O w s fr G ⟨6, b, [], [], 0, 0⟩ 6 b.length e w' from fun e w' hh => .inr ⟨hc, hh⟩)
    have hs2 := afterC_size w s (fr - cellsI 6 b.length)
    have HK := Lib.hid (clone_at (c := c) (src_afterC hS h (fr - cellsI 6 b.length)) hm)
    rw [hs2] at HK
    have HR := Lib.hid (fun w3 h23 hT => ready_call (t := ⟨6, b, [], [], 0, 0⟩) (l := ⟨.slice (some ⟨w.heap.size + 1, 0, none⟩) b.length b.length, .slice none 0 0, .slice none 0 0⟩) (w3 := w3) h hc (by decide) h23 hT)
    unfold thV at HR
    clear hc h hS
    go_enter Tryz.func12, Tryz.ntmps12
    go_wp2_with fail
    refine HC.out.mono ?_; rintro e w2 ⟨rfl, rfl⟩
    go_wp2_with fail
    refine HK.out.mono ?_; rintro e w3 ⟨rfl, hk, hb3⟩
    have HR3 := Lib.hid (HR.out w3 hb3 (row_bytes hk hm ⟨Nat.le_refl _, (Array.getElem?_eq_some_iff.1 hk).1⟩))
    clear hk hb3
    go_wp2_with fail
    refine HR3.out.mono ?_; rintro e w4 ⟨rfl, hB, hfin⟩
    obtain ⟨d0, d1, d2, d3, d4, d5, d6, d7, df⟩ := box_cells hB
    have HB := Lib.hid hB
    have HF := Lib.hid hfin
    clear hB hfin
    simp only [newOb, Ob.val]
    go_wp2_with fail
    have hp := put8 HB.out (.int .i64 6) (.bool false) (.int .i64 0) (.int .i64 0) (.string ⟨#[]⟩) (.int .i64 ((G.length : Int) + 1)) (.int .i64 0) (.int .i64 (Th.length ⟨6, b, [], [], 0, 0⟩))
    exact bodyPost_ret (results_ob2 Tryz.results12 _ _ w.heap.size rfl rfl hp.blk) rfl (HM.out _ _ ⟨rfl, HF.out _ _ _ _ _ _ _ _ _ hp⟩)
  · have hcn : (clm 6 b.length fr != 0) = true := by simp [hc]
    have HC := Lib.hid (claim_not h hc)
    have HM := Lib.hid (show ∀ e w', (e = Ending.returned (.tuple #[nul.val, .int .i64 (clm 6 b.length fr)]) ∧ Below w.heap.size w w') → Made O w s fr G ⟨6, b, [], [], 0, 0⟩ 6 b.length e w' from fun e w' hh => .inl ⟨hc, hh⟩)
    clear hc h hS
    go_enter Tryz.func12, Tryz.ntmps12
    go_wp2_with fail
    refine HC.out.mono ?_; rintro e w2 ⟨rfl, rfl⟩
    go_wp2_with fail
    exact bodyPost_ret (results_ob2 Tryz.results12 _ _ w.heap.size rfl rfl (heap_alloc_new w _)) rfl (HM.out _ _ ⟨rfl, below1 w _⟩)
end Go.Proofs.YtfilbfenpdaahaaGreatDoor
