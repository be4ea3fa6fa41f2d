/-
  The contracts of the tables (font's own) and of a letter out of them.
-/
import Derived.Test.YtioldiibfhcgpaaDoorFonBase
namespace Go.Proofs.YtioldiibfhcgpaaDoor
open Go.RowKit
namespace Fo
set_option maxRecDepth 100000 in
theorem of_at (l : List Int) (hl : l.length = 95) (c : Int) (hc : 0 ≤ c ∧ c < 256) (w : World) (hb : ∀ k, k < 95 → 0 ≤ l.getD k 0 ∧ l.getD k 0 ≤ 1015) :
    Calls Tryd.prog 17 #[.agg (cv l), .int .u8 c] w fun e w' => e = .returned (.int .i64 (if c < 32 ∨ 126 < c then 0 else l.getD (c - 32).toNat 0)) ∧ Below w.heap.size w w' := by
  have hB := below1 w (.cells (cv l) 38)
  by_cases h1 : c < 32
  · clear hb
    go_enter Tryd.func17, Tryd.ntmps17
    go_wp2_with fail
    go_ret
    exact ⟨rfl, hB⟩
  · by_cases h2 : 126 < c
    · clear hb
      go_enter Tryd.func17, Tryd.ntmps17
      go_wp2_with fail
      go_ret
      exact ⟨rfl, hB⟩
    · have hblk : (w.alloc (.cells (cv l) 38)).heap[w.heap.size]? = _ := heap_alloc_new w _
      obtain ⟨k, rfl⟩ : ∃ k : Nat, c = k + 32 := ⟨(c - 32).toNat, by omega⟩
      have hk : k < 95 := by omega
      have hcell : (w.alloc (.cells (cv l) 38)).cell? ⟨w.heap.size, k, none⟩ = some (.int .u16 (l.getD k 0)) := by rw [blk_cell hblk, cv_at _ _ (by omega)]
      have hw : IntKind.u8.wrap ((k : Int) + 32 - 32) = k := by rw [IntKind.wrap_u8]; omega
      obtain ⟨b1, b2⟩ := hb k hk
      have e1 : ((k : Int) + 32 - 32).toNat = k := by omega
      rw [if_neg (by omega), e1]
      generalize l.getD k 0 = v at *
      clear hb hblk
      go_enter Tryd.func17, Tryd.ntmps17
      go_wp2_with fail
      go_ret
      exact ⟨rfl, hB⟩
def AllR (n : Int) (w : World) (i : Value) (w' : World) : Prop :=
  ∃ (k : Nat) (cur : Array Value), k ≤ 95 ∧ i = .int .i64 k ∧ w'.heap[w.heap.size + 1]? = some (.cells cur 38 (0, 0)) ∧ cur.size = 95 ∧ (∀ j, j < k → cur[j]? = some (.int .u16 n)) ∧ Below w.heap.size w w'
    ∧ w'.heap[w.heap.size]? = some (.cells zc 38 (0, 0))
set_option maxRecDepth 100000 in
theorem allOf_at (n : Int) (w : World) :
    Calls Tryd.prog 19 #[.int .u16 n] w fun e w' => e = .returned (.agg (cv (List.replicate 95 n))) ∧ Below w.heap.size w w' := by
  have hz := w_zero
  have hB := bthen (below1 w (.cells zc 38)) (below1 _ (.cells zc 38))
  have hN1 := heap_alloc2_new w (.cells zc 38) (.cells zc 38)
  have hN2 := heap_alloc2_old w (.cells zc 38) (.cells zc 38)
  have HS := Lib.hid (And.intro hB (And.intro hN1 hN2))
  clear hB hN1 hN2
  go_enter Tryd.func19, Tryd.ntmps19
  go_wp2_with fail
  go_loopw [5] (AllR n w) (fun i _ => 95 - (intOf i).toNat)
  case atStart => exact ⟨0, zc, by omega, rfl, HS.out.2.1, zc_size, fun j hj => by omega, HS.out.1, HS.out.2.2⟩
  case round =>
    clear HS hz
    obtain ⟨k, cur, hk, rfl, hb1, hsz, hall, hbel, hb2⟩ := hrel
    by_cases hlt : k < 95
    · obtain ⟨old, hcell⟩ : ∃ v, wr.cell? ⟨w.heap.size + 1, k, none⟩ = some v := ⟨cur[k]'(by omega), by rw [blk_cell hb1]; exact Array.getElem?_eq_getElem (by omega)⟩
      have hfree := blk_free hb1 k
      have HB1 := Lib.hid (blk_set hb1 k (.int .u16 n))
      have HB2 := Lib.hid ((blk_far (W := wr) (B := w.heap.size + 1) (b := w.heap.size) (j := k) (by omega) (.int .u16 n)).trans hb2)
      have HBl := Lib.hid (Below.setCell hbel (p := ⟨w.heap.size + 1, k, none⟩) (by simp) (.int .u16 n))
      have HA : Hid (∀ j, j < k + 1 → (cur.setIfInBounds k (.int .u16 n))[j]? = some (.int .u16 n)) := by
        intro j hj
        rcases Nat.lt_or_ge j k with h | h
        · rw [Array.getElem?_setIfInBounds_ne (by omega)]; exact hall j h
        · obtain rfl : j = k := by omega
          simp [hsz, hlt]
      have HSz := Lib.hid (show (cur.setIfInBounds k (.int .u16 n)).size = 95 by simp [hsz])
      have hlt' : (k : Int) < 95 := by omega
      have hk0 : (0 : Int) ≤ k := by omega
      clear hb1 hb2 hbel hall hsz
      go_wp2_with fail
      go_roundw
      case rel => exact ⟨k + 1, _, by omega, rfl, HB1.out, HSz.out, HA.out, HBl.out, HB2.out⟩
      case measure => simp [intOf]; omega
    · obtain rfl : k = 95 := by omega
      have hcur : cur = cv (List.replicate 95 n) := by
        apply Array.ext_getElem?
        intro j
        rcases Nat.lt_or_ge j 95 with h | h
        · rw [hall j h, cv_at _ _ (by simpa using h)]
          rw [List.getD_eq_getElem?_getD, List.getElem?_replicate_of_lt h]; rfl
        · rw [Array.getElem?_eq_none (by omega), Array.getElem?_eq_none (by rw [cv_size]; simp; omega)]
      subst hcur
      have HB1 := Lib.hid hb1
      have HB2 := Lib.hid hb2
      have HBl := Lib.hid hbel
      have hL : (List.replicate 95 n).length = 95 := List.length_replicate
      obtain ⟨L, hE⟩ : ∃ L, List.replicate 95 n = L := ⟨_, rfl⟩
      rw [hE] at HB1 hL
      have HE := Lib.hid hE
      clear hE
      clear hb1 hb2 hbel hall hsz
      go_wp2_with first | (refine wpList_load_row rfl 38 _ rfl _ rfl 38 _ _ _ HB1.out Tryd.underlying38 rfl (w_size_of _ hL) ?_) | (refine wpList_store_row rfl 38 _ _ rfl _ (cv L) rfl rfl 38 zc HB2.out (w_size_of _ hL) (zc_of _ hL) (cv_all _) ?_)
      refine bodyPost_ret (v := .agg (cv L)) ?_ rfl ⟨by rw [HE.out], below_setRow HBl.out (Nat.le_refl _) _⟩
      exact results_cell_row rfl _ _ _ _ _ _ _ rfl (setRow_heap _ _ _ _ _ _ HB2.out) Tryd.underlying38 rfl (w_size_of _ hL)
set_option maxRecDepth 100000 in
theorem helvetica_at (w : World) :
    Calls Tryd.prog 20 #[] w fun e w' => e = .returned (.agg (cv (wds 0))) ∧ Below w.heap.size w w' := by
  have hz := w_zero
  have HB := Lib.hid (below1 w (.cells zc 38))
  have HN := Lib.hid (heap_alloc_new w (.cells zc 38))
  go_enter Tryd.func20, Tryd.ntmps20
  go_wp2_with first | (refine wpList_built rfl 38 _ rfl (cv (wds 0)) (by kernel_rfl) ?_) | (refine wpList_store_row rfl 38 _ _ rfl _ (cv (wds 0)) rfl rfl 38 zc HN.out (w_size_of _ rfl) (zc_of _ rfl) (cv_all _) ?_)
  refine bodyPost_ret (v := .agg (cv (wds 0))) ?_ rfl ⟨rfl, below_setRow HB.out (Nat.le_refl _) _⟩
  exact results_cell_row rfl _ _ _ _ _ _ _ rfl (setRow_heap _ _ _ _ _ _ HN.out) Tryd.underlying38 rfl (w_size_of _ rfl)
set_option maxRecDepth 100000 in
theorem helveticaBold_at (w : World) :
    Calls Tryd.prog 21 #[] w fun e w' => e = .returned (.agg (cv (wds 1))) ∧ Below w.heap.size w w' := by
  have hz := w_zero
  have HB := Lib.hid (below1 w (.cells zc 38))
  have HN := Lib.hid (heap_alloc_new w (.cells zc 38))
  go_enter Tryd.func21, Tryd.ntmps21
  go_wp2_with first | (refine wpList_built rfl 38 _ rfl (cv (wds 1)) (by kernel_rfl) ?_) | (refine wpList_store_row rfl 38 _ _ rfl _ (cv (wds 1)) rfl rfl 38 zc HN.out (w_size_of _ rfl) (zc_of _ rfl) (cv_all _) ?_)
  refine bodyPost_ret (v := .agg (cv (wds 1))) ?_ rfl ⟨rfl, below_setRow HB.out (Nat.le_refl _) _⟩
  exact results_cell_row rfl _ _ _ _ _ _ _ rfl (setRow_heap _ _ _ _ _ _ HN.out) Tryd.underlying38 rfl (w_size_of _ rfl)
set_option maxRecDepth 100000 in
theorem timesRoman_at (w : World) :
    Calls Tryd.prog 22 #[] w fun e w' => e = .returned (.agg (cv (wds 2))) ∧ Below w.heap.size w w' := by
  have hz := w_zero
  have HB := Lib.hid (below1 w (.cells zc 38))
  have HN := Lib.hid (heap_alloc_new w (.cells zc 38))
  go_enter Tryd.func22, Tryd.ntmps22
  go_wp2_with first | (refine wpList_built rfl 38 _ rfl (cv (wds 2)) (by kernel_rfl) ?_) | (refine wpList_store_row rfl 38 _ _ rfl _ (cv (wds 2)) rfl rfl 38 zc HN.out (w_size_of _ rfl) (zc_of _ rfl) (cv_all _) ?_)
  refine bodyPost_ret (v := .agg (cv (wds 2))) ?_ rfl ⟨rfl, below_setRow HB.out (Nat.le_refl _) _⟩
  exact results_cell_row rfl _ _ _ _ _ _ _ rfl (setRow_heap _ _ _ _ _ _ HN.out) Tryd.underlying38 rfl (w_size_of _ rfl)
set_option maxRecDepth 100000 in
theorem timesBold_at (w : World) :
    Calls Tryd.prog 23 #[] w fun e w' => e = .returned (.agg (cv (wds 3))) ∧ Below w.heap.size w w' := by
  have hz := w_zero
  have HB := Lib.hid (below1 w (.cells zc 38))
  have HN := Lib.hid (heap_alloc_new w (.cells zc 38))
  go_enter Tryd.func23, Tryd.ntmps23
  go_wp2_with first | (refine wpList_built rfl 38 _ rfl (cv (wds 3)) (by kernel_rfl) ?_) | (refine wpList_store_row rfl 38 _ _ rfl _ (cv (wds 3)) rfl rfl 38 zc HN.out (w_size_of _ rfl) (zc_of _ rfl) (cv_all _) ?_)
  refine bodyPost_ret (v := .agg (cv (wds 3))) ?_ rfl ⟨rfl, below_setRow HB.out (Nat.le_refl _) _⟩
  exact results_cell_row rfl _ _ _ _ _ _ _ rfl (setRow_heap _ _ _ _ _ _ HN.out) Tryd.underlying38 rfl (w_size_of _ rfl)
set_option maxRecDepth 100000 in
theorem timesItalic_at (w : World) :
    Calls Tryd.prog 24 #[] w fun e w' => e = .returned (.agg (cv (wds 4))) ∧ Below w.heap.size w w' := by
  have hz := w_zero
  have HB := Lib.hid (below1 w (.cells zc 38))
  have HN := Lib.hid (heap_alloc_new w (.cells zc 38))
  go_enter Tryd.func24, Tryd.ntmps24
  go_wp2_with first | (refine wpList_built rfl 38 _ rfl (cv (wds 4)) (by kernel_rfl) ?_) | (refine wpList_store_row rfl 38 _ _ rfl _ (cv (wds 4)) rfl rfl 38 zc HN.out (w_size_of _ rfl) (zc_of _ rfl) (cv_all _) ?_)
  refine bodyPost_ret (v := .agg (cv (wds 4))) ?_ rfl ⟨rfl, below_setRow HB.out (Nat.le_refl _) _⟩
  exact results_cell_row rfl _ _ _ _ _ _ _ rfl (setRow_heap _ _ _ _ _ _ HN.out) Tryd.underlying38 rfl (w_size_of _ rfl)
set_option maxRecDepth 100000 in
theorem timesBoldItalic_at (w : World) :
    Calls Tryd.prog 25 #[] w fun e w' => e = .returned (.agg (cv (wds 5))) ∧ Below w.heap.size w w' := by
  have hz := w_zero
  have HB := Lib.hid (below1 w (.cells zc 38))
  have HN := Lib.hid (heap_alloc_new w (.cells zc 38))
  go_enter Tryd.func25, Tryd.ntmps25
  go_wp2_with first | (refine wpList_built rfl 38 _ rfl (cv (wds 5)) (by kernel_rfl) ?_) | (refine wpList_store_row rfl 38 _ _ rfl _ (cv (wds 5)) rfl rfl 38 zc HN.out (w_size_of _ rfl) (zc_of _ rfl) (cv_all _) ?_)
  refine bodyPost_ret (v := .agg (cv (wds 5))) ?_ rfl ⟨rfl, below_setRow HB.out (Nat.le_refl _) _⟩
  exact results_cell_row rfl _ _ _ _ _ _ _ rfl (setRow_heap _ _ _ _ _ _ HN.out) Tryd.underlying38 rfl (w_size_of _ rfl)
end Fo
end Go.Proofs.YtioldiibfhcgpaaDoor
