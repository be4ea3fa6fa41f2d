/-
  The contracts of Name and of widthsOf, font by font.
-/
import Derived.Test.YtioldiibfhcgpaaDoorFonOf
namespace Go.Proofs.YtioldiibfhcgpaaDoor
open Go.RowKit
namespace Fo
theorem name_at (k : Nat) (hk : k < 14) (w : World) (ht : NmT w) : Calls Tryd.prog 13 #[.int .i64 k] w fun e w' => e = .returned (.string (nmS k)) ∧ w = w' := by
  have hc := ht k hk
  have h0 : (0 : Int) ≤ k := by omega
  have h1 : (k : Int) < 14 := by omega
  generalize nmS k = s at *
  clear ht
  go_enter Tryd.func13, Tryd.ntmps13
  go_wp2_with fail
  go_ret
  exact ⟨rfl, rfl⟩
theorem name_no (i : Int) (hi : i < 0 ∨ 14 ≤ i) (w : World) : Calls Tryd.prog 13 #[.int .i64 i] w fun e w' => e = .returned (.string ⟨#[]⟩) ∧ w = w' := by
  by_cases h : i < 0
  · go_enter Tryd.func13, Tryd.ntmps13
    go_wp2_with fail
    go_ret
    exact ⟨rfl, rfl⟩
  · have h1 : 14 ≤ i := by omega
    go_enter Tryd.func13, Tryd.ntmps13
    go_wp2_with fail
    go_ret
    exact ⟨rfl, rfl⟩
theorem nm_call {w w' : World} (h : Below (w.alloc (.cells zc 38)).heap.size (w.alloc (.cells zc 38)) w') : w'.heap[w.heap.size]? = some (.cells zc 38 (0, 0)) ∧ Below w.heap.size w w' :=
  ⟨by rw [h.block _ (by simp)]; exact heap_alloc_new w _, bthen (below1 w _) h⟩
set_option maxRecDepth 100000 in
theorem wide_0 (w : World) (ht : NmT w) : Calls Tryd.prog 16 #[.int .i64 0] w fun e w' => e = .returned (.agg (cv (wdL 0))) ∧ Below w.heap.size w w' := by
  have hz := w_zero
  have HN := Lib.hid (fun (v : World) (ht : NmT v) => name_at 0 (by omega) v ht)
  rw [show nmS 0 = ⟨#[67, 111, 117, 114, 105, 101, 114]⟩ from rfl] at HN
  have HT := Lib.hid (ht.below (below1 w (.cells zc 38)))
  clear ht
  have hL : (wdL 0).length = 95 := rfl
  have HB := Lib.hid (And.intro (heap_alloc_new w (.cells zc 38)) (below1 w (.cells zc 38)))
  go_enter Tryd.func16, Tryd.ntmps16
  go_wp2_with fail
  refine (HN.out _ HT.out).mono ?_; rintro e w1 ⟨rfl, rfl⟩
  go_wp2_with fail
  refine (allOf_at 600 _).mono ?_; rintro e w2 ⟨rfl, hb2⟩
  obtain ⟨hblk, hbel⟩ := nm_call hb2
  have HB2 := Lib.hid (And.intro hblk hbel)
  clear hblk hbel hb2 HB
  go_wp2_with (refine wpList_store_row rfl 38 _ _ rfl _ (cv (wdL 0)) rfl rfl 38 zc HB2.out.1 (w_size_of _ hL) (zc_of _ hL) (cv_all _) ?_)
  refine bodyPost_ret (v := .agg (cv (wdL 0))) ?_ rfl ⟨rfl, below_setRow HB2.out.2 (Nat.le_refl _) _⟩
  exact results_cell_row rfl _ _ _ _ _ _ _ rfl (setRow_heap _ _ _ _ _ _ HB2.out.1) Tryd.underlying38 rfl (w_size_of _ hL)
set_option maxRecDepth 100000 in
theorem wide_1 (w : World) (ht : NmT w) : Calls Tryd.prog 16 #[.int .i64 1] w fun e w' => e = .returned (.agg (cv (wdL 1))) ∧ Below w.heap.size w w' := by
  have hz := w_zero
  have HN := Lib.hid (fun (v : World) (ht : NmT v) => name_at 1 (by omega) v ht)
  rw [show nmS 1 = ⟨#[67, 111, 117, 114, 105, 101, 114, 45, 66, 111, 108, 100]⟩ from rfl] at HN
  have HT := Lib.hid (ht.below (below1 w (.cells zc 38)))
  clear ht
  have hL : (wdL 1).length = 95 := rfl
  have HB := Lib.hid (And.intro (heap_alloc_new w (.cells zc 38)) (below1 w (.cells zc 38)))
  go_enter Tryd.func16, Tryd.ntmps16
  go_wp2_with fail
  refine (HN.out _ HT.out).mono ?_; rintro e w1 ⟨rfl, rfl⟩
  go_wp2_with fail
  refine (allOf_at 600 _).mono ?_; rintro e w2 ⟨rfl, hb2⟩
  obtain ⟨hblk, hbel⟩ := nm_call hb2
  have HB2 := Lib.hid (And.intro hblk hbel)
  clear hblk hbel hb2 HB
  go_wp2_with (refine wpList_store_row rfl 38 _ _ rfl _ (cv (wdL 1)) rfl rfl 38 zc HB2.out.1 (w_size_of _ hL) (zc_of _ hL) (cv_all _) ?_)
  refine bodyPost_ret (v := .agg (cv (wdL 1))) ?_ rfl ⟨rfl, below_setRow HB2.out.2 (Nat.le_refl _) _⟩
  exact results_cell_row rfl _ _ _ _ _ _ _ rfl (setRow_heap _ _ _ _ _ _ HB2.out.1) Tryd.underlying38 rfl (w_size_of _ hL)
set_option maxRecDepth 100000 in
theorem wide_2 (w : World) (ht : NmT w) : Calls Tryd.prog 16 #[.int .i64 2] w fun e w' => e = .returned (.agg (cv (wdL 2))) ∧ Below w.heap.size w w' := by
  have hz := w_zero
  have HN := Lib.hid (fun (v : World) (ht : NmT v) => name_at 2 (by omega) v ht)
  rw [show nmS 2 = ⟨#[67, 111, 117, 114, 105, 101, 114, 45, 79, 98, 108, 105, 113, 117, 101]⟩ from rfl] at HN
  have HT := Lib.hid (ht.below (below1 w (.cells zc 38)))
  clear ht
  have hL : (wdL 2).length = 95 := rfl
  have HB := Lib.hid (And.intro (heap_alloc_new w (.cells zc 38)) (below1 w (.cells zc 38)))
  go_enter Tryd.func16, Tryd.ntmps16
  go_wp2_with fail
  refine (HN.out _ HT.out).mono ?_; rintro e w1 ⟨rfl, rfl⟩
  go_wp2_with fail
  refine (allOf_at 600 _).mono ?_; rintro e w2 ⟨rfl, hb2⟩
  obtain ⟨hblk, hbel⟩ := nm_call hb2
  have HB2 := Lib.hid (And.intro hblk hbel)
  clear hblk hbel hb2 HB
  go_wp2_with (refine wpList_store_row rfl 38 _ _ rfl _ (cv (wdL 2)) rfl rfl 38 zc HB2.out.1 (w_size_of _ hL) (zc_of _ hL) (cv_all _) ?_)
  refine bodyPost_ret (v := .agg (cv (wdL 2))) ?_ rfl ⟨rfl, below_setRow HB2.out.2 (Nat.le_refl _) _⟩
  exact results_cell_row rfl _ _ _ _ _ _ _ rfl (setRow_heap _ _ _ _ _ _ HB2.out.1) Tryd.underlying38 rfl (w_size_of _ hL)
set_option maxRecDepth 100000 in
theorem wide_3 (w : World) (ht : NmT w) : Calls Tryd.prog 16 #[.int .i64 3] w fun e w' => e = .returned (.agg (cv (wdL 3))) ∧ Below w.heap.size w w' := by
  have hz := w_zero
  have HN := Lib.hid (fun (v : World) (ht : NmT v) => name_at 3 (by omega) v ht)
  rw [show nmS 3 = ⟨#[67, 111, 117, 114, 105, 101, 114, 45, 66, 111, 108, 100, 79, 98, 108, 105, 113, 117, 101]⟩ from rfl] at HN
  have HT := Lib.hid (ht.below (below1 w (.cells zc 38)))
  clear ht
  have hL : (wdL 3).length = 95 := rfl
  have HB := Lib.hid (And.intro (heap_alloc_new w (.cells zc 38)) (below1 w (.cells zc 38)))
  go_enter Tryd.func16, Tryd.ntmps16
  go_wp2_with fail
  refine (HN.out _ HT.out).mono ?_; rintro e w1 ⟨rfl, rfl⟩
  go_wp2_with fail
  refine (allOf_at 600 _).mono ?_; rintro e w2 ⟨rfl, hb2⟩
  obtain ⟨hblk, hbel⟩ := nm_call hb2
  have HB2 := Lib.hid (And.intro hblk hbel)
  clear hblk hbel hb2 HB
  go_wp2_with (refine wpList_store_row rfl 38 _ _ rfl _ (cv (wdL 3)) rfl rfl 38 zc HB2.out.1 (w_size_of _ hL) (zc_of _ hL) (cv_all _) ?_)
  refine bodyPost_ret (v := .agg (cv (wdL 3))) ?_ rfl ⟨rfl, below_setRow HB2.out.2 (Nat.le_refl _) _⟩
  exact results_cell_row rfl _ _ _ _ _ _ _ rfl (setRow_heap _ _ _ _ _ _ HB2.out.1) Tryd.underlying38 rfl (w_size_of _ hL)
set_option maxRecDepth 100000 in
theorem wide_4 (w : World) (ht : NmT w) : Calls Tryd.prog 16 #[.int .i64 4] w fun e w' => e = .returned (.agg (cv (wdL 4))) ∧ Below w.heap.size w w' := by
  have hz := w_zero
  have HN := Lib.hid (fun (v : World) (ht : NmT v) => name_at 4 (by omega) v ht)
  rw [show nmS 4 = ⟨#[72, 101, 108, 118, 101, 116, 105, 99, 97]⟩ from rfl] at HN
  have HT := Lib.hid (ht.below (below1 w (.cells zc 38)))
  clear ht
  have hL : (wdL 4).length = 95 := rfl
  have HB := Lib.hid (And.intro (heap_alloc_new w (.cells zc 38)) (below1 w (.cells zc 38)))
  go_enter Tryd.func16, Tryd.ntmps16
  go_wp2_with fail
  refine (HN.out _ HT.out).mono ?_; rintro e w1 ⟨rfl, rfl⟩
  go_wp2_with fail
  refine (helvetica_at _).mono ?_; rintro e w2 ⟨rfl, hb2⟩
  obtain ⟨hblk, hbel⟩ := nm_call hb2
  have HB2 := Lib.hid (And.intro hblk hbel)
  clear hblk hbel hb2 HB
  go_wp2_with (refine wpList_store_row rfl 38 _ _ rfl _ (cv (wdL 4)) rfl rfl 38 zc HB2.out.1 (w_size_of _ hL) (zc_of _ hL) (cv_all _) ?_)
  refine bodyPost_ret (v := .agg (cv (wdL 4))) ?_ rfl ⟨rfl, below_setRow HB2.out.2 (Nat.le_refl _) _⟩
  exact results_cell_row rfl _ _ _ _ _ _ _ rfl (setRow_heap _ _ _ _ _ _ HB2.out.1) Tryd.underlying38 rfl (w_size_of _ hL)
set_option maxRecDepth 100000 in
theorem wide_5 (w : World) (ht : NmT w) : Calls Tryd.prog 16 #[.int .i64 5] w fun e w' => e = .returned (.agg (cv (wdL 5))) ∧ Below w.heap.size w w' := by
  have hz := w_zero
  have HN := Lib.hid (fun (v : World) (ht : NmT v) => name_at 5 (by omega) v ht)
  rw [show nmS 5 = ⟨#[72, 101, 108, 118, 101, 116, 105, 99, 97, 45, 66, 111, 108, 100]⟩ from rfl] at HN
  have HT := Lib.hid (ht.below (below1 w (.cells zc 38)))
  clear ht
  have hL : (wdL 5).length = 95 := rfl
  have HB := Lib.hid (And.intro (heap_alloc_new w (.cells zc 38)) (below1 w (.cells zc 38)))
  go_enter Tryd.func16, Tryd.ntmps16
  go_wp2_with fail
  refine (HN.out _ HT.out).mono ?_; rintro e w1 ⟨rfl, rfl⟩
  go_wp2_with fail
  refine (helveticaBold_at _).mono ?_; rintro e w2 ⟨rfl, hb2⟩
  obtain ⟨hblk, hbel⟩ := nm_call hb2
  have HB2 := Lib.hid (And.intro hblk hbel)
  clear hblk hbel hb2 HB
  go_wp2_with (refine wpList_store_row rfl 38 _ _ rfl _ (cv (wdL 5)) rfl rfl 38 zc HB2.out.1 (w_size_of _ hL) (zc_of _ hL) (cv_all _) ?_)
  refine bodyPost_ret (v := .agg (cv (wdL 5))) ?_ rfl ⟨rfl, below_setRow HB2.out.2 (Nat.le_refl _) _⟩
  exact results_cell_row rfl _ _ _ _ _ _ _ rfl (setRow_heap _ _ _ _ _ _ HB2.out.1) Tryd.underlying38 rfl (w_size_of _ hL)
set_option maxRecDepth 100000 in
theorem wide_6 (w : World) (ht : NmT w) : Calls Tryd.prog 16 #[.int .i64 6] w fun e w' => e = .returned (.agg (cv (wdL 6))) ∧ Below w.heap.size w w' := by
  have hz := w_zero
  have HN := Lib.hid (fun (v : World) (ht : NmT v) => name_at 6 (by omega) v ht)
  rw [show nmS 6 = ⟨#[72, 101, 108, 118, 101, 116, 105, 99, 97, 45, 79, 98, 108, 105, 113, 117, 101]⟩ from rfl] at HN
  have HT := Lib.hid (ht.below (below1 w (.cells zc 38)))
  clear ht
  have hL : (wdL 6).length = 95 := rfl
  have HB := Lib.hid (And.intro (heap_alloc_new w (.cells zc 38)) (below1 w (.cells zc 38)))
  go_enter Tryd.func16, Tryd.ntmps16
  go_wp2_with fail
  refine (HN.out _ HT.out).mono ?_; rintro e w1 ⟨rfl, rfl⟩
  go_wp2_with fail
  refine (helvetica_at _).mono ?_; rintro e w2 ⟨rfl, hb2⟩
  obtain ⟨hblk, hbel⟩ := nm_call hb2
  have HB2 := Lib.hid (And.intro hblk hbel)
  clear hblk hbel hb2 HB
  go_wp2_with (refine wpList_store_row rfl 38 _ _ rfl _ (cv (wdL 6)) rfl rfl 38 zc HB2.out.1 (w_size_of _ hL) (zc_of _ hL) (cv_all _) ?_)
  refine bodyPost_ret (v := .agg (cv (wdL 6))) ?_ rfl ⟨rfl, below_setRow HB2.out.2 (Nat.le_refl _) _⟩
  exact results_cell_row rfl _ _ _ _ _ _ _ rfl (setRow_heap _ _ _ _ _ _ HB2.out.1) Tryd.underlying38 rfl (w_size_of _ hL)
set_option maxRecDepth 100000 in
theorem wide_7 (w : World) (ht : NmT w) : Calls Tryd.prog 16 #[.int .i64 7] w fun e w' => e = .returned (.agg (cv (wdL 7))) ∧ Below w.heap.size w w' := by
  have hz := w_zero
  have HN := Lib.hid (fun (v : World) (ht : NmT v) => name_at 7 (by omega) v ht)
  rw [show nmS 7 = ⟨#[72, 101, 108, 118, 101, 116, 105, 99, 97, 45, 66, 111, 108, 100, 79, 98, 108, 105, 113, 117, 101]⟩ from rfl] at HN
  have HT := Lib.hid (ht.below (below1 w (.cells zc 38)))
  clear ht
  have hL : (wdL 7).length = 95 := rfl
  have HB := Lib.hid (And.intro (heap_alloc_new w (.cells zc 38)) (below1 w (.cells zc 38)))
  go_enter Tryd.func16, Tryd.ntmps16
  go_wp2_with fail
  refine (HN.out _ HT.out).mono ?_; rintro e w1 ⟨rfl, rfl⟩
  go_wp2_with fail
  refine (helveticaBold_at _).mono ?_; rintro e w2 ⟨rfl, hb2⟩
  obtain ⟨hblk, hbel⟩ := nm_call hb2
  have HB2 := Lib.hid (And.intro hblk hbel)
  clear hblk hbel hb2 HB
  go_wp2_with (refine wpList_store_row rfl 38 _ _ rfl _ (cv (wdL 7)) rfl rfl 38 zc HB2.out.1 (w_size_of _ hL) (zc_of _ hL) (cv_all _) ?_)
  refine bodyPost_ret (v := .agg (cv (wdL 7))) ?_ rfl ⟨rfl, below_setRow HB2.out.2 (Nat.le_refl _) _⟩
  exact results_cell_row rfl _ _ _ _ _ _ _ rfl (setRow_heap _ _ _ _ _ _ HB2.out.1) Tryd.underlying38 rfl (w_size_of _ hL)
set_option maxRecDepth 100000 in
theorem wide_8 (w : World) (ht : NmT w) : Calls Tryd.prog 16 #[.int .i64 8] w fun e w' => e = .returned (.agg (cv (wdL 8))) ∧ Below w.heap.size w w' := by
  have hz := w_zero
  have HN := Lib.hid (fun (v : World) (ht : NmT v) => name_at 8 (by omega) v ht)
  rw [show nmS 8 = ⟨#[84, 105, 109, 101, 115, 45, 82, 111, 109, 97, 110]⟩ from rfl] at HN
  have HT := Lib.hid (ht.below (below1 w (.cells zc 38)))
  clear ht
  have hL : (wdL 8).length = 95 := rfl
  have HB := Lib.hid (And.intro (heap_alloc_new w (.cells zc 38)) (below1 w (.cells zc 38)))
  go_enter Tryd.func16, Tryd.ntmps16
  go_wp2_with fail
  refine (HN.out _ HT.out).mono ?_; rintro e w1 ⟨rfl, rfl⟩
  go_wp2_with fail
  refine (timesRoman_at _).mono ?_; rintro e w2 ⟨rfl, hb2⟩
  obtain ⟨hblk, hbel⟩ := nm_call hb2
  have HB2 := Lib.hid (And.intro hblk hbel)
  clear hblk hbel hb2 HB
  go_wp2_with (refine wpList_store_row rfl 38 _ _ rfl _ (cv (wdL 8)) rfl rfl 38 zc HB2.out.1 (w_size_of _ hL) (zc_of _ hL) (cv_all _) ?_)
  refine bodyPost_ret (v := .agg (cv (wdL 8))) ?_ rfl ⟨rfl, below_setRow HB2.out.2 (Nat.le_refl _) _⟩
  exact results_cell_row rfl _ _ _ _ _ _ _ rfl (setRow_heap _ _ _ _ _ _ HB2.out.1) Tryd.underlying38 rfl (w_size_of _ hL)
set_option maxRecDepth 100000 in
theorem wide_9 (w : World) (ht : NmT w) : Calls Tryd.prog 16 #[.int .i64 9] w fun e w' => e = .returned (.agg (cv (wdL 9))) ∧ Below w.heap.size w w' := by
  have hz := w_zero
  have HN := Lib.hid (fun (v : World) (ht : NmT v) => name_at 9 (by omega) v ht)
  rw [show nmS 9 = ⟨#[84, 105, 109, 101, 115, 45, 66, 111, 108, 100]⟩ from rfl] at HN
  have HT := Lib.hid (ht.below (below1 w (.cells zc 38)))
  clear ht
  have hL : (wdL 9).length = 95 := rfl
  have HB := Lib.hid (And.intro (heap_alloc_new w (.cells zc 38)) (below1 w (.cells zc 38)))
  go_enter Tryd.func16, Tryd.ntmps16
  go_wp2_with fail
  refine (HN.out _ HT.out).mono ?_; rintro e w1 ⟨rfl, rfl⟩
  go_wp2_with fail
  refine (timesBold_at _).mono ?_; rintro e w2 ⟨rfl, hb2⟩
  obtain ⟨hblk, hbel⟩ := nm_call hb2
  have HB2 := Lib.hid (And.intro hblk hbel)
  clear hblk hbel hb2 HB
  go_wp2_with (refine wpList_store_row rfl 38 _ _ rfl _ (cv (wdL 9)) rfl rfl 38 zc HB2.out.1 (w_size_of _ hL) (zc_of _ hL) (cv_all _) ?_)
  refine bodyPost_ret (v := .agg (cv (wdL 9))) ?_ rfl ⟨rfl, below_setRow HB2.out.2 (Nat.le_refl _) _⟩
  exact results_cell_row rfl _ _ _ _ _ _ _ rfl (setRow_heap _ _ _ _ _ _ HB2.out.1) Tryd.underlying38 rfl (w_size_of _ hL)
set_option maxRecDepth 100000 in
theorem wide_10 (w : World) (ht : NmT w) : Calls Tryd.prog 16 #[.int .i64 10] w fun e w' => e = .returned (.agg (cv (wdL 10))) ∧ Below w.heap.size w w' := by
  have hz := w_zero
  have HN := Lib.hid (fun (v : World) (ht : NmT v) => name_at 10 (by omega) v ht)
  rw [show nmS 10 = ⟨#[84, 105, 109, 101, 115, 45, 73, 116, 97, 108, 105, 99]⟩ from rfl] at HN
  have HT := Lib.hid (ht.below (below1 w (.cells zc 38)))
  clear ht
  have hL : (wdL 10).length = 95 := rfl
  have HB := Lib.hid (And.intro (heap_alloc_new w (.cells zc 38)) (below1 w (.cells zc 38)))
  go_enter Tryd.func16, Tryd.ntmps16
  go_wp2_with fail
  refine (HN.out _ HT.out).mono ?_; rintro e w1 ⟨rfl, rfl⟩
  go_wp2_with fail
  refine (timesItalic_at _).mono ?_; rintro e w2 ⟨rfl, hb2⟩
  obtain ⟨hblk, hbel⟩ := nm_call hb2
  have HB2 := Lib.hid (And.intro hblk hbel)
  clear hblk hbel hb2 HB
  go_wp2_with (refine wpList_store_row rfl 38 _ _ rfl _ (cv (wdL 10)) rfl rfl 38 zc HB2.out.1 (w_size_of _ hL) (zc_of _ hL) (cv_all _) ?_)
  refine bodyPost_ret (v := .agg (cv (wdL 10))) ?_ rfl ⟨rfl, below_setRow HB2.out.2 (Nat.le_refl _) _⟩
  exact results_cell_row rfl _ _ _ _ _ _ _ rfl (setRow_heap _ _ _ _ _ _ HB2.out.1) Tryd.underlying38 rfl (w_size_of _ hL)
set_option maxRecDepth 100000 in
theorem wide_11 (w : World) (ht : NmT w) : Calls Tryd.prog 16 #[.int .i64 11] w fun e w' => e = .returned (.agg (cv (wdL 11))) ∧ Below w.heap.size w w' := by
  have hz := w_zero
  have HN := Lib.hid (fun (v : World) (ht : NmT v) => name_at 11 (by omega) v ht)
  rw [show nmS 11 = ⟨#[84, 105, 109, 101, 115, 45, 66, 111, 108, 100, 73, 116, 97, 108, 105, 99]⟩ from rfl] at HN
  have HT := Lib.hid (ht.below (below1 w (.cells zc 38)))
  clear ht
  have hL : (wdL 11).length = 95 := rfl
  have HB := Lib.hid (And.intro (heap_alloc_new w (.cells zc 38)) (below1 w (.cells zc 38)))
  go_enter Tryd.func16, Tryd.ntmps16
  go_wp2_with fail
  refine (HN.out _ HT.out).mono ?_; rintro e w1 ⟨rfl, rfl⟩
  go_wp2_with fail
  refine (timesBoldItalic_at _).mono ?_; rintro e w2 ⟨rfl, hb2⟩
  obtain ⟨hblk, hbel⟩ := nm_call hb2
  have HB2 := Lib.hid (And.intro hblk hbel)
  clear hblk hbel hb2 HB
  go_wp2_with (refine wpList_store_row rfl 38 _ _ rfl _ (cv (wdL 11)) rfl rfl 38 zc HB2.out.1 (w_size_of _ hL) (zc_of _ hL) (cv_all _) ?_)
  refine bodyPost_ret (v := .agg (cv (wdL 11))) ?_ rfl ⟨rfl, below_setRow HB2.out.2 (Nat.le_refl _) _⟩
  exact results_cell_row rfl _ _ _ _ _ _ _ rfl (setRow_heap _ _ _ _ _ _ HB2.out.1) Tryd.underlying38 rfl (w_size_of _ hL)
set_option maxRecDepth 100000 in
theorem wide_12 (w : World) (ht : NmT w) : Calls Tryd.prog 16 #[.int .i64 12] w fun e w' => e = .returned (.agg (cv (wdL 12))) ∧ Below w.heap.size w w' := by
  have hz := w_zero
  have HN := Lib.hid (fun (v : World) (ht : NmT v) => name_at 12 (by omega) v ht)
  rw [show nmS 12 = ⟨#[83, 121, 109, 98, 111, 108]⟩ from rfl] at HN
  have HT := Lib.hid (ht.below (below1 w (.cells zc 38)))
  clear ht
  have hL : (wdL 12).length = 95 := rfl
  have HB := Lib.hid (And.intro (heap_alloc_new w (.cells zc 38)) (below1 w (.cells zc 38)))
  go_enter Tryd.func16, Tryd.ntmps16
  go_wp2_with fail
  refine (HN.out _ HT.out).mono ?_; rintro e w1 ⟨rfl, rfl⟩
  go_wp2_with fail
  refine (allOf_at 600 _).mono ?_; rintro e w2 ⟨rfl, hb2⟩
  obtain ⟨hblk, hbel⟩ := nm_call hb2
  have HB2 := Lib.hid (And.intro hblk hbel)
  clear hblk hbel hb2 HB
  go_wp2_with (refine wpList_store_row rfl 38 _ _ rfl _ (cv (wdL 12)) rfl rfl 38 zc HB2.out.1 (w_size_of _ hL) (zc_of _ hL) (cv_all _) ?_)
  refine bodyPost_ret (v := .agg (cv (wdL 12))) ?_ rfl ⟨rfl, below_setRow HB2.out.2 (Nat.le_refl _) _⟩
  exact results_cell_row rfl _ _ _ _ _ _ _ rfl (setRow_heap _ _ _ _ _ _ HB2.out.1) Tryd.underlying38 rfl (w_size_of _ hL)
set_option maxRecDepth 100000 in
theorem wide_13 (w : World) (ht : NmT w) : Calls Tryd.prog 16 #[.int .i64 13] w fun e w' => e = .returned (.agg (cv (wdL 13))) ∧ Below w.heap.size w w' := by
  have hz := w_zero
  have HN := Lib.hid (fun (v : World) (ht : NmT v) => name_at 13 (by omega) v ht)
  rw [show nmS 13 = ⟨#[90, 97, 112, 102, 68, 105, 110, 103, 98, 97, 116, 115]⟩ from rfl] at HN
  have HT := Lib.hid (ht.below (below1 w (.cells zc 38)))
  clear ht
  have hL : (wdL 13).length = 95 := rfl
  have HB := Lib.hid (And.intro (heap_alloc_new w (.cells zc 38)) (below1 w (.cells zc 38)))
  go_enter Tryd.func16, Tryd.ntmps16
  go_wp2_with fail
  refine (HN.out _ HT.out).mono ?_; rintro e w1 ⟨rfl, rfl⟩
  go_wp2_with fail
  refine (allOf_at 788 _).mono ?_; rintro e w2 ⟨rfl, hb2⟩
  obtain ⟨hblk, hbel⟩ := nm_call hb2
  have HB2 := Lib.hid (And.intro hblk hbel)
  clear hblk hbel hb2 HB
  go_wp2_with (refine wpList_store_row rfl 38 _ _ rfl _ (cv (wdL 13)) rfl rfl 38 zc HB2.out.1 (w_size_of _ hL) (zc_of _ hL) (cv_all _) ?_)
  refine bodyPost_ret (v := .agg (cv (wdL 13))) ?_ rfl ⟨rfl, below_setRow HB2.out.2 (Nat.le_refl _) _⟩
  exact results_cell_row rfl _ _ _ _ _ _ _ rfl (setRow_heap _ _ _ _ _ _ HB2.out.1) Tryd.underlying38 rfl (w_size_of _ hL)
set_option maxRecDepth 100000 in
theorem wide_no (i : Int) (hi : i < 0 ∨ 14 ≤ i) (w : World) : Calls Tryd.prog 16 #[.int .i64 i] w fun e w' => e = .returned (.agg (cv (wdL 14))) ∧ Below w.heap.size w w' := by
  have hz := w_zero
  have HN := Lib.hid (fun (v : World) => name_no i hi v)
  have hL : (wdL 14).length = 95 := rfl
  have HB := Lib.hid (And.intro (heap_alloc_new w (.cells zc 38)) (below1 w (.cells zc 38)))
  go_enter Tryd.func16, Tryd.ntmps16
  go_wp2_with fail
  refine (HN.out _).mono ?_; rintro e w1 ⟨rfl, rfl⟩
  go_wp2_with first | (refine wpList_built rfl 38 _ rfl (cv (wdL 14)) (by kernel_rfl) ?_) | (refine wpList_store_row rfl 38 _ _ rfl _ (cv (wdL 14)) rfl rfl 38 zc HB.out.1 (w_size_of _ hL) (zc_of _ hL) (cv_all _) ?_)
  refine bodyPost_ret (v := .agg (cv (wdL 14))) ?_ rfl ⟨rfl, below_setRow HB.out.2 (Nat.le_refl _) _⟩
  exact results_cell_row rfl _ _ _ _ _ _ _ rfl (setRow_heap _ _ _ _ _ _ HB.out.1) Tryd.underlying38 rfl (w_size_of _ hL)
end Fo
end Go.Proofs.YtioldiibfhcgpaaDoor
