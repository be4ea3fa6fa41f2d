/-
  The contracts of Width (font's and the document's).
-/
import Derived.Test.YtioldiibfhcgpaaDoorFonWide
import Derived.Lib.Hide
namespace Go.Proofs.YtioldiibfhcgpaaDoor
open Go.RowKit
namespace Fo
theorem wide_at (i : Int) (w : World) (ht : NmT w) : Calls Tryd.prog 16 #[.int .i64 i] w fun e w' => e = .returned (.agg (cv (wdL (fno i)))) ∧ Below w.heap.size w w' := by
  by_cases h : 0 ≤ i ∧ i < 14
  · obtain ⟨k, rfl⟩ : ∃ k : Nat, i = k := ⟨i.toNat, by omega⟩
    have hk : k < 14 := by omega
    have e : fno (k : Int) = k := by unfold fno; rw [if_pos h]; omega
    rw [e]
    clear e h
    match k, hk with
    | 0, _ => exact wide_0 w ht
    | 1, _ => exact wide_1 w ht
    | 2, _ => exact wide_2 w ht
    | 3, _ => exact wide_3 w ht
    | 4, _ => exact wide_4 w ht
    | 5, _ => exact wide_5 w ht
    | 6, _ => exact wide_6 w ht
    | 7, _ => exact wide_7 w ht
    | 8, _ => exact wide_8 w ht
    | 9, _ => exact wide_9 w ht
    | 10, _ => exact wide_10 w ht
    | 11, _ => exact wide_11 w ht
    | 12, _ => exact wide_12 w ht
    | 13, _ => exact wide_13 w ht
  · have e : fno i = 14 := by unfold fno; rw [if_neg h]
    rw [e]
    exact wide_no i (by omega) w
theorem wdL_bd (i : Int) (k : Nat) (hk : k < 95) : 0 ≤ (wdL (fno i)).getD k 0 ∧ (wdL (fno i)).getD k 0 ≤ 1015 := by
  obtain ⟨h1, h2⟩ := wdL_ok _ (fno_lt i)
  have := List.all_eq_true.1 h2 ((wdL (fno i))[k]'(by omega)) (List.getElem_mem _)
  rw [List.getD_eq_getElem?_getD, List.getElem?_eq_getElem (by omega)]
  simpa using this
theorem width_at (i c : Int) (hc : 0 ≤ c ∧ c < 256) (w : World) (ht : NmT w) : Calls Tryd.prog 8 #[.int .i64 i, .int .u8 c] w fun e w' => e = .returned (.int .i64 (wid i c)) ∧ Below w.heap.size w w' := by
  have HW := Lib.hid (wide_at i w ht)
  have HO := Lib.hid (fun v => of_at (wdL (fno i)) (wdL_len i) c hc v (wdL_bd i))
  clear hc ht
  have HE : Hid ((if c < 32 ∨ 126 < c then 0 else (wdL (fno i)).getD (c - 32).toNat 0) = wid i c) := rfl
  go_enter Tryd.func8, Tryd.ntmps8
  go_wp2_with fail
  refine HW.out.mono ?_; rintro e w1 ⟨rfl, hb1⟩
  have HB1 := Lib.hid hb1
  clear hb1
  go_wp2_with fail
  refine (HO.out _).mono ?_; rintro e w2 ⟨rfl, hb2⟩
  rw [HE.out]
  have HB2 := Lib.hid (bthen HB1.out hb2)
  clear hb2
  go_wp2_with fail
  go_ret
  exact ⟨rfl, HB2.out⟩

set_option maxRecDepth 100000 in
theorem table_0 (w : World) : Calls Tryd.prog 18 #[.int .i64 0] w fun e w' => ∃ s : ByteArray, e = .returned (.string s) ∧ s.data.toList = tabL 0 ∧ w = w' := by
  go_enter Tryd.func18, Tryd.ntmps18
  go_wp2_with fail
  go_ret
  exact ⟨_, rfl, rfl, rfl⟩
set_option maxRecDepth 100000 in
theorem table_1 (w : World) : Calls Tryd.prog 18 #[.int .i64 1] w fun e w' => ∃ s : ByteArray, e = .returned (.string s) ∧ s.data.toList = tabL 1 ∧ w = w' := by
  go_enter Tryd.func18, Tryd.ntmps18
  go_wp2_with fail
  go_ret
  exact ⟨_, rfl, rfl, rfl⟩
set_option maxRecDepth 100000 in
theorem table_2 (w : World) : Calls Tryd.prog 18 #[.int .i64 2] w fun e w' => ∃ s : ByteArray, e = .returned (.string s) ∧ s.data.toList = tabL 2 ∧ w = w' := by
  go_enter Tryd.func18, Tryd.ntmps18
  go_wp2_with fail
  go_ret
  exact ⟨_, rfl, rfl, rfl⟩
set_option maxRecDepth 100000 in
theorem table_3 (w : World) : Calls Tryd.prog 18 #[.int .i64 3] w fun e w' => ∃ s : ByteArray, e = .returned (.string s) ∧ s.data.toList = tabL 3 ∧ w = w' := by
  go_enter Tryd.func18, Tryd.ntmps18
  go_wp2_with fail
  go_ret
  exact ⟨_, rfl, rfl, rfl⟩
set_option maxRecDepth 100000 in
theorem table_4 (w : World) : Calls Tryd.prog 18 #[.int .i64 4] w fun e w' => ∃ s : ByteArray, e = .returned (.string s) ∧ s.data.toList = tabL 4 ∧ w = w' := by
  go_enter Tryd.func18, Tryd.ntmps18
  go_wp2_with fail
  go_ret
  exact ⟨_, rfl, rfl, rfl⟩
set_option maxRecDepth 100000 in
theorem table_5 (w : World) : Calls Tryd.prog 18 #[.int .i64 5] w fun e w' => ∃ s : ByteArray, e = .returned (.string s) ∧ s.data.toList = tabL 5 ∧ w = w' := by
  go_enter Tryd.func18, Tryd.ntmps18
  go_wp2_with fail
  go_ret
  exact ⟨_, rfl, rfl, rfl⟩
set_option maxRecDepth 100000 in
theorem table_6 (w : World) : Calls Tryd.prog 18 #[.int .i64 6] w fun e w' => ∃ s : ByteArray, e = .returned (.string s) ∧ s.data.toList = tabL 6 ∧ w = w' := by
  go_enter Tryd.func18, Tryd.ntmps18
  go_wp2_with fail
  go_ret
  exact ⟨_, rfl, rfl, rfl⟩
set_option maxRecDepth 100000 in
theorem table_7 (w : World) : Calls Tryd.prog 18 #[.int .i64 7] w fun e w' => ∃ s : ByteArray, e = .returned (.string s) ∧ s.data.toList = tabL 7 ∧ w = w' := by
  go_enter Tryd.func18, Tryd.ntmps18
  go_wp2_with fail
  go_ret
  exact ⟨_, rfl, rfl, rfl⟩
set_option maxRecDepth 100000 in
theorem table_8 (w : World) : Calls Tryd.prog 18 #[.int .i64 8] w fun e w' => ∃ s : ByteArray, e = .returned (.string s) ∧ s.data.toList = tabL 8 ∧ w = w' := by
  go_enter Tryd.func18, Tryd.ntmps18
  go_wp2_with fail
  go_ret
  exact ⟨_, rfl, rfl, rfl⟩
set_option maxRecDepth 100000 in
theorem table_9 (w : World) : Calls Tryd.prog 18 #[.int .i64 9] w fun e w' => ∃ s : ByteArray, e = .returned (.string s) ∧ s.data.toList = tabL 9 ∧ w = w' := by
  go_enter Tryd.func18, Tryd.ntmps18
  go_wp2_with fail
  go_ret
  exact ⟨_, rfl, rfl, rfl⟩
set_option maxRecDepth 100000 in
theorem table_10 (w : World) : Calls Tryd.prog 18 #[.int .i64 10] w fun e w' => ∃ s : ByteArray, e = .returned (.string s) ∧ s.data.toList = tabL 10 ∧ w = w' := by
  go_enter Tryd.func18, Tryd.ntmps18
  go_wp2_with fail
  go_ret
  exact ⟨_, rfl, rfl, rfl⟩
set_option maxRecDepth 100000 in
theorem table_11 (w : World) : Calls Tryd.prog 18 #[.int .i64 11] w fun e w' => ∃ s : ByteArray, e = .returned (.string s) ∧ s.data.toList = tabL 11 ∧ w = w' := by
  go_enter Tryd.func18, Tryd.ntmps18
  go_wp2_with fail
  go_ret
  exact ⟨_, rfl, rfl, rfl⟩
set_option maxRecDepth 100000 in
theorem table_12 (w : World) : Calls Tryd.prog 18 #[.int .i64 12] w fun e w' => ∃ s : ByteArray, e = .returned (.string s) ∧ s.data.toList = tabL 12 ∧ w = w' := by
  go_enter Tryd.func18, Tryd.ntmps18
  go_wp2_with fail
  go_ret
  exact ⟨_, rfl, rfl, rfl⟩
set_option maxRecDepth 100000 in
theorem table_13 (w : World) : Calls Tryd.prog 18 #[.int .i64 13] w fun e w' => ∃ s : ByteArray, e = .returned (.string s) ∧ s.data.toList = tabL 13 ∧ w = w' := by
  go_enter Tryd.func18, Tryd.ntmps18
  go_wp2_with fail
  go_ret
  exact ⟨_, rfl, rfl, rfl⟩
theorem table_at (k : Nat) (hk : k < 14) (w : World) : Calls Tryd.prog 18 #[.int .i64 k] w fun e w' => ∃ s : ByteArray, e = .returned (.string s) ∧ s.data.toList = tabL k ∧ w = w' := by
  match k, hk with
  | 0, _ => exact table_0 w
  | 1, _ => exact table_1 w
  | 2, _ => exact table_2 w
  | 3, _ => exact table_3 w
  | 4, _ => exact table_4 w
  | 5, _ => exact table_5 w
  | 6, _ => exact table_6 w
  | 7, _ => exact table_7 w
  | 8, _ => exact table_8 w
  | 9, _ => exact table_9 w
  | 10, _ => exact table_10 w
  | 11, _ => exact table_11 w
  | 12, _ => exact table_12 w
  | 13, _ => exact table_13 w
end Fo
end Go.Proofs.YtioldiibfhcgpaaDoor
