/-
  Copies of rows, by contracts: clone of things, slots and pairs.
-/
import Derived.Test.YtlflkdmbbomjeaaStoRow
namespace Go.Proofs.Ytlflkdmbbomjeaa
open Go.RowKit
open St
/-- a whole row is copied into another -/
theorem copy_row_run {W : World} {T E : TypeId} {i : TypeInfo} {g0 g n c dc : Nat} {cur : Array Value} {xs : List Value} (hu : Try.prog.underlying T = some (.slice E)) (hi : Try.prog.info? E = some i) (hs : W.ownsRow 0 E i.size (.slice (some ⟨g0, 0, none⟩) n c) n xs) (hg : W.heap[g]? = some (.cells cur E (0, 0))) (hc : cur.size = n * i.size) (h1 : ∀ v ∈ xs, v.oneCell' = true) :
    (Builtin.copy_ #[T, T] 3 #[.slice (some ⟨g, 0, none⟩) n dc, .slice (some ⟨g0, 0, none⟩) n c]).run Try.prog W = .ok (.int .i64 n) (W.setRow g xs.toArray) := by
  have hl : xs.length = n * i.size := hs.1
  have hf := run_firstCells_some (P := Try.prog) W i.size n ⟨g0, 0, none⟩ n c xs hl (hs.cells (g := g0) rfl)
  have hst := run_storeCells_at Try.prog g 0 E xs 0 cur W hg (by omega) h1
  simp only [Nat.add_zero, Nat.zero_add] at hst
  have hz : cur.toList.take 0 ++ xs ++ cur.toList.drop xs.length = xs := by
    rw [List.drop_of_length_le (by simp; omega)]; simp
  rw [hz] at hst
  simp [Builtin.copy_, run_underlying hu, Builtin.lenOf, sizeOf, typeInfo, hi, hf, hst, goInt]
theorem own_big {w : World} {B n size : Nat} {e : TypeId} {cs : Array Value} (h : w.heap[B]? = some (.cells cs e (0, 0))) (hn : n ≤ 1048576) (hs : cs.size = n * size) : w.ownsRow 0 e size (.slice (some ⟨B, 0, none⟩) n n) n cs.toList :=
  ⟨by simp [hs], .inr ⟨B, n, cs, rfl, Nat.zero_le _, h, Nat.le_refl _, by unfold maxLen; omega, hs, by rw [List.take_of_length_le (by simp [hs])]⟩⟩
theorem thing_infoC : (Try.prog.info? 121).map (fun i => (i.zero, i.size, i.bytes)) = some (some (.agg #[.int .i64 0, .int .i64 0, .slice none 0 0, .slice none 0 0, .slice none 0 0, .int .i64 0, .int .i64 0]), 7, 104) := by kernel_rfl
theorem slot_infoC : (Try.prog.info? 127).map (fun i => (i.zero, i.size, i.bytes)) = some (some (.agg #[.int .i64 0, .bool false, .int .i64 0, .int .i64 0, .string ⟨#[]⟩, .int .i64 0, .int .i64 0, .int .i64 0, .int .i64 0]), 9, 80) := by kernel_rfl
theorem pair_infoC : (Try.prog.info? 129).map (fun i => (i.zero, i.size, i.bytes)) = some (some (.agg #[.int .i64 0, .bool false, .int .i64 0, .int .i64 0, .string ⟨#[]⟩, .int .i64 0, .int .i64 0, .int .i64 0, .int .i64 0, .bool false, .int .i64 0, .int .i64 0, .string ⟨#[]⟩, .int .i64 0, .int .i64 0, .int .i64 0, .int .i64 0]), 17, 152) := by kernel_rfl
theorem mark_infoC : (Try.prog.info? 136).map (fun i => (i.zero, i.size, i.bytes)) = some (some (.agg #[.int .i64 0, .int .i64 0, .int .i64 0, .int .i64 0]), 4, 32) := by kernel_rfl
theorem change_infoC : (Try.prog.info? 131).map (fun i => (i.zero, i.size, i.bytes)) = some (some (.agg #[.int .i64 0, .int .i64 0, .int .i64 0, .int .i64 0, .bool false, .int .i64 0, .int .i64 0, .string ⟨#[]⟩, .int .i64 0, .int .i64 0, .int .i64 0, .int .i64 0, .bool false, .int .i64 0, .int .i64 0, .string ⟨#[]⟩, .int .i64 0, .int .i64 0, .int .i64 0, .int .i64 0]), 20, 176) := by kernel_rfl
set_option maxRecDepth 100000 in
theorem clone_thing {w : World} {v : Value} {n : Nat} {xs : List Value} (h : w.ownsRow 0 121 7 v n xs) (hn : n ≤ 1048576) (h1 : ∀ v ∈ xs, v.oneCell' = true) :
    Calls Try.prog 72 #[v] w fun e w' => e = .returned (.slice (some ⟨w.heap.size, 0, none⟩) n n) ∧ w'.ownsRow 0 121 7 (.slice (some ⟨w.heap.size, 0, none⟩) n n) n xs ∧ Below w.heap.size w w' := by
  obtain ⟨i0, hi, hz0, hz1, hz2⟩ := info_parts thing_infoC
  obtain ⟨mc, hmc, hmk⟩ : ∃ mc : Array Value, mc.size = n * 7 ∧ (Instr.makeSlice 106 (.int .i64 n) (.int .i64 n)).run Try.prog w = .ok (.slice (some ⟨w.heap.size, 0, none⟩) n n) (w.alloc (.cells mc 121)) := by
    have h := run_make (P := Try.prog) w 106 121 i0 _ Try.underlying106 hi hz0 .i64 .i64 n n (by omega) (Int.le_refl _) (by rw [hz2]; omega) (by omega)
    rw [hz1] at h
    simp only [Int.toNat_natCast] at h
    exact ⟨_, size_madeCells _ _, h⟩
  have hb1 := below1 w (.cells mc 121)
  have ha := heap_alloc_new w (.cells mc 121)
  rcases h.2 with ⟨rfl, rfl⟩ | ⟨g0, cap, cur, rfl, _, hg0, _⟩
  · have hx : xs = [] := List.eq_nil_of_length_eq_zero (by simpa using h.1)
    subst hx
    have hcp := run_copy_nil (P := Try.prog) (w.alloc (.cells mc 121)) 106 106 3 121 ⟨w.heap.size, 0, none⟩ 0 0 Try.underlying106 (by rw [hi]; rfl)
    have HW := Lib.hid (own_of_block (size := 7) (n := 0) ha (by omega) hmc)
    have HB := Lib.hid hb1
    simp only [Int.ofNat_zero] at hmk
    unfold goInt at hcp
    have hmc0 : mc.toList = [] := List.eq_nil_of_length_eq_zero (by simpa using hmc)
    have HM := Lib.hid hmc0
    clear h h1 hb1 ha hi hz0 hz1 hz2 hmc hmc0 hn
    go_enter Try.func72, Try.ntmps72
    go_wp2_with fail
    go_ret
    exact ⟨rfl, by have := HW.out; rw [HM.out] at this; exact this, HB.out⟩
  · have hs := h.alloc (.cells mc 121)
    have hcp := copy_row_run (dc := n) (i := i0) Try.underlying106 hi (by rw [hz1]; exact hs) ha (by rw [hz1]; exact hmc) h1
    have hrow := setRow_heap (w.alloc (.cells mc 121)) w.heap.size mc xs.toArray 121 (0, 0) ha
    have HW := Lib.hid (own_big (size := 7) (n := n) hrow hn (by simpa using h.1))
    have HB := Lib.hid (hb1.trans ⟨rfl, rfl, rfl, by simp [World.setRow], fun k hk => setRow_other _ _ k _ (by omega)⟩ : Below w.heap.size w ((w.alloc (.cells mc 121)).setRow w.heap.size xs.toArray))
    generalize (w.alloc (.cells mc 121)).setRow w.heap.size xs.toArray = wz at *
    clear h h1 hs hb1 ha hi hz0 hz1 hz2 hmc hrow hg0 hn
    go_enter Try.func72, Try.ntmps72
    go_wp2_with fail
    go_ret
    exact ⟨rfl, HW.out, HB.out⟩
set_option maxRecDepth 100000 in
theorem clone_slot {w : World} {v : Value} {n : Nat} {xs : List Value} (h : w.ownsRow 0 127 9 v n xs) (hn : n ≤ 1048576) (h1 : ∀ v ∈ xs, v.oneCell' = true) :
    Calls Try.prog 73 #[v] w fun e w' => e = .returned (.slice (some ⟨w.heap.size, 0, none⟩) n n) ∧ w'.ownsRow 0 127 9 (.slice (some ⟨w.heap.size, 0, none⟩) n n) n xs ∧ Below w.heap.size w w' := by
  obtain ⟨i0, hi, hz0, hz1, hz2⟩ := info_parts slot_infoC
  obtain ⟨mc, hmc, hmk⟩ : ∃ mc : Array Value, mc.size = n * 9 ∧ (Instr.makeSlice 118 (.int .i64 n) (.int .i64 n)).run Try.prog w = .ok (.slice (some ⟨w.heap.size, 0, none⟩) n n) (w.alloc (.cells mc 127)) := by
    have h := run_make (P := Try.prog) w 118 127 i0 _ Try.underlying118 hi hz0 .i64 .i64 n n (by omega) (Int.le_refl _) (by rw [hz2]; omega) (by omega)
    rw [hz1] at h
    simp only [Int.toNat_natCast] at h
    exact ⟨_, size_madeCells _ _, h⟩
  have hb1 := below1 w (.cells mc 127)
  have ha := heap_alloc_new w (.cells mc 127)
  rcases h.2 with ⟨rfl, rfl⟩ | ⟨g0, cap, cur, rfl, _, hg0, _⟩
  · have hx : xs = [] := List.eq_nil_of_length_eq_zero (by simpa using h.1)
    subst hx
    have hcp := run_copy_nil (P := Try.prog) (w.alloc (.cells mc 127)) 118 118 3 127 ⟨w.heap.size, 0, none⟩ 0 0 Try.underlying118 (by rw [hi]; rfl)
    have HW := Lib.hid (own_of_block (size := 9) (n := 0) ha (by omega) hmc)
    have HB := Lib.hid hb1
    simp only [Int.ofNat_zero] at hmk
    unfold goInt at hcp
    have hmc0 : mc.toList = [] := List.eq_nil_of_length_eq_zero (by simpa using hmc)
    have HM := Lib.hid hmc0
    clear h h1 hb1 ha hi hz0 hz1 hz2 hmc hmc0 hn
    go_enter Try.func73, Try.ntmps73
    go_wp2_with fail
    go_ret
    exact ⟨rfl, by have := HW.out; rw [HM.out] at this; exact this, HB.out⟩
  · have hs := h.alloc (.cells mc 127)
    have hcp := copy_row_run (dc := n) (i := i0) Try.underlying118 hi (by rw [hz1]; exact hs) ha (by rw [hz1]; exact hmc) h1
    have hrow := setRow_heap (w.alloc (.cells mc 127)) w.heap.size mc xs.toArray 127 (0, 0) ha
    have HW := Lib.hid (own_big (size := 9) (n := n) hrow hn (by simpa using h.1))
    have HB := Lib.hid (hb1.trans ⟨rfl, rfl, rfl, by simp [World.setRow], fun k hk => setRow_other _ _ k _ (by omega)⟩ : Below w.heap.size w ((w.alloc (.cells mc 127)).setRow w.heap.size xs.toArray))
    generalize (w.alloc (.cells mc 127)).setRow w.heap.size xs.toArray = wz at *
    clear h h1 hs hb1 ha hi hz0 hz1 hz2 hmc hrow hg0 hn
    go_enter Try.func73, Try.ntmps73
    go_wp2_with fail
    go_ret
    exact ⟨rfl, HW.out, HB.out⟩
set_option maxRecDepth 100000 in
theorem clone_pair {w : World} {v : Value} {n : Nat} {xs : List Value} (h : w.ownsRow 0 129 17 v n xs) (hn : n ≤ 1048576) (h1 : ∀ v ∈ xs, v.oneCell' = true) :
    Calls Try.prog 74 #[v] w fun e w' => e = .returned (.slice (some ⟨w.heap.size, 0, none⟩) n n) ∧ w'.ownsRow 0 129 17 (.slice (some ⟨w.heap.size, 0, none⟩) n n) n xs ∧ Below w.heap.size w w' := by
  obtain ⟨i0, hi, hz0, hz1, hz2⟩ := info_parts pair_infoC
  obtain ⟨mc, hmc, hmk⟩ : ∃ mc : Array Value, mc.size = n * 17 ∧ (Instr.makeSlice 119 (.int .i64 n) (.int .i64 n)).run Try.prog w = .ok (.slice (some ⟨w.heap.size, 0, none⟩) n n) (w.alloc (.cells mc 129)) := by
    have h := run_make (P := Try.prog) w 119 129 i0 _ Try.underlying119 hi hz0 .i64 .i64 n n (by omega) (Int.le_refl _) (by rw [hz2]; omega) (by omega)
    rw [hz1] at h
    simp only [Int.toNat_natCast] at h
    exact ⟨_, size_madeCells _ _, h⟩
  have hb1 := below1 w (.cells mc 129)
  have ha := heap_alloc_new w (.cells mc 129)
  rcases h.2 with ⟨rfl, rfl⟩ | ⟨g0, cap, cur, rfl, _, hg0, _⟩
  · have hx : xs = [] := List.eq_nil_of_length_eq_zero (by simpa using h.1)
    subst hx
    have hcp := run_copy_nil (P := Try.prog) (w.alloc (.cells mc 129)) 119 119 3 129 ⟨w.heap.size, 0, none⟩ 0 0 Try.underlying119 (by rw [hi]; rfl)
    have HW := Lib.hid (own_of_block (size := 17) (n := 0) ha (by omega) hmc)
    have HB := Lib.hid hb1
    simp only [Int.ofNat_zero] at hmk
    unfold goInt at hcp
    have hmc0 : mc.toList = [] := List.eq_nil_of_length_eq_zero (by simpa using hmc)
    have HM := Lib.hid hmc0
    clear h h1 hb1 ha hi hz0 hz1 hz2 hmc hmc0 hn
    go_enter Try.func74, Try.ntmps74
    go_wp2_with fail
    go_ret
    exact ⟨rfl, by have := HW.out; rw [HM.out] at this; exact this, HB.out⟩
  · have hs := h.alloc (.cells mc 129)
    have hcp := copy_row_run (dc := n) (i := i0) Try.underlying119 hi (by rw [hz1]; exact hs) ha (by rw [hz1]; exact hmc) h1
    have hrow := setRow_heap (w.alloc (.cells mc 129)) w.heap.size mc xs.toArray 129 (0, 0) ha
    have HW := Lib.hid (own_big (size := 17) (n := n) hrow hn (by simpa using h.1))
    have HB := Lib.hid (hb1.trans ⟨rfl, rfl, rfl, by simp [World.setRow], fun k hk => setRow_other _ _ k _ (by omega)⟩ : Below w.heap.size w ((w.alloc (.cells mc 129)).setRow w.heap.size xs.toArray))
    generalize (w.alloc (.cells mc 129)).setRow w.heap.size xs.toArray = wz at *
    clear h h1 hs hb1 ha hi hz0 hz1 hz2 hmc hrow hg0 hn
    go_enter Try.func74, Try.ntmps74
    go_wp2_with fail
    go_ret
    exact ⟨rfl, HW.out, HB.out⟩
set_option maxRecDepth 100000 in
theorem clone_mark {w : World} {v : Value} {n : Nat} {xs : List Value} (h : w.ownsRow 0 136 4 v n xs) (hn : n ≤ 1048576) (h1 : ∀ v ∈ xs, v.oneCell' = true) :
    Calls Try.prog 75 #[v] w fun e w' => e = .returned (.slice (some ⟨w.heap.size, 0, none⟩) n n) ∧ w'.ownsRow 0 136 4 (.slice (some ⟨w.heap.size, 0, none⟩) n n) n xs ∧ Below w.heap.size w w' := by
  obtain ⟨i0, hi, hz0, hz1, hz2⟩ := info_parts mark_infoC
  obtain ⟨mc, hmc, hmk⟩ : ∃ mc : Array Value, mc.size = n * 4 ∧ (Instr.makeSlice 107 (.int .i64 n) (.int .i64 n)).run Try.prog w = .ok (.slice (some ⟨w.heap.size, 0, none⟩) n n) (w.alloc (.cells mc 136)) := by
    have h := run_make (P := Try.prog) w 107 136 i0 _ Try.underlying107 hi hz0 .i64 .i64 n n (by omega) (Int.le_refl _) (by rw [hz2]; omega) (by omega)
    rw [hz1] at h
    simp only [Int.toNat_natCast] at h
    exact ⟨_, size_madeCells _ _, h⟩
  have hb1 := below1 w (.cells mc 136)
  have ha := heap_alloc_new w (.cells mc 136)
  rcases h.2 with ⟨rfl, rfl⟩ | ⟨g0, cap, cur, rfl, _, hg0, _⟩
  · have hx : xs = [] := List.eq_nil_of_length_eq_zero (by simpa using h.1)
    subst hx
    have hcp := run_copy_nil (P := Try.prog) (w.alloc (.cells mc 136)) 107 107 3 136 ⟨w.heap.size, 0, none⟩ 0 0 Try.underlying107 (by rw [hi]; rfl)
    have HW := Lib.hid (own_of_block (size := 4) (n := 0) ha (by omega) hmc)
    have HB := Lib.hid hb1
    simp only [Int.ofNat_zero] at hmk
    unfold goInt at hcp
    have hmc0 : mc.toList = [] := List.eq_nil_of_length_eq_zero (by simpa using hmc)
    have HM := Lib.hid hmc0
    clear h h1 hb1 ha hi hz0 hz1 hz2 hmc hmc0 hn
    go_enter Try.func75, Try.ntmps75
    go_wp2_with fail
    go_ret
    exact ⟨rfl, by have := HW.out; rw [HM.out] at this; exact this, HB.out⟩
  · have hs := h.alloc (.cells mc 136)
    have hcp := copy_row_run (dc := n) (i := i0) Try.underlying107 hi (by rw [hz1]; exact hs) ha (by rw [hz1]; exact hmc) h1
    have hrow := setRow_heap (w.alloc (.cells mc 136)) w.heap.size mc xs.toArray 136 (0, 0) ha
    have HW := Lib.hid (own_big (size := 4) (n := n) hrow hn (by simpa using h.1))
    have HB := Lib.hid (hb1.trans ⟨rfl, rfl, rfl, by simp [World.setRow], fun k hk => setRow_other _ _ k _ (by omega)⟩ : Below w.heap.size w ((w.alloc (.cells mc 136)).setRow w.heap.size xs.toArray))
    generalize (w.alloc (.cells mc 136)).setRow w.heap.size xs.toArray = wz at *
    clear h h1 hs hb1 ha hi hz0 hz1 hz2 hmc hrow hg0 hn
    go_enter Try.func75, Try.ntmps75
    go_wp2_with fail
    go_ret
    exact ⟨rfl, HW.out, HB.out⟩
set_option maxRecDepth 100000 in
theorem clone_change {w : World} {v : Value} {n : Nat} {xs : List Value} (h : w.ownsRow 0 131 20 v n xs) (hn : n ≤ 1048576) (h1 : ∀ v ∈ xs, v.oneCell' = true) :
    Calls Try.prog 76 #[v] w fun e w' => e = .returned (.slice (some ⟨w.heap.size, 0, none⟩) n n) ∧ w'.ownsRow 0 131 20 (.slice (some ⟨w.heap.size, 0, none⟩) n n) n xs ∧ Below w.heap.size w w' := by
  obtain ⟨i0, hi, hz0, hz1, hz2⟩ := info_parts change_infoC
  obtain ⟨mc, hmc, hmk⟩ : ∃ mc : Array Value, mc.size = n * 20 ∧ (Instr.makeSlice 108 (.int .i64 n) (.int .i64 n)).run Try.prog w = .ok (.slice (some ⟨w.heap.size, 0, none⟩) n n) (w.alloc (.cells mc 131)) := by
    have h := run_make (P := Try.prog) w 108 131 i0 _ Try.underlying108 hi hz0 .i64 .i64 n n (by omega) (Int.le_refl _) (by rw [hz2]; omega) (by omega)
    rw [hz1] at h
    simp only [Int.toNat_natCast] at h
    exact ⟨_, size_madeCells _ _, h⟩
  have hb1 := below1 w (.cells mc 131)
  have ha := heap_alloc_new w (.cells mc 131)
  rcases h.2 with ⟨rfl, rfl⟩ | ⟨g0, cap, cur, rfl, _, hg0, _⟩
  · have hx : xs = [] := List.eq_nil_of_length_eq_zero (by simpa using h.1)
    subst hx
    have hcp := run_copy_nil (P := Try.prog) (w.alloc (.cells mc 131)) 108 108 3 131 ⟨w.heap.size, 0, none⟩ 0 0 Try.underlying108 (by rw [hi]; rfl)
    have HW := Lib.hid (own_of_block (size := 20) (n := 0) ha (by omega) hmc)
    have HB := Lib.hid hb1
    simp only [Int.ofNat_zero] at hmk
    unfold goInt at hcp
    have hmc0 : mc.toList = [] := List.eq_nil_of_length_eq_zero (by simpa using hmc)
    have HM := Lib.hid hmc0
    clear h h1 hb1 ha hi hz0 hz1 hz2 hmc hmc0 hn
    go_enter Try.func76, Try.ntmps76
    go_wp2_with fail
    go_ret
    exact ⟨rfl, by have := HW.out; rw [HM.out] at this; exact this, HB.out⟩
  · have hs := h.alloc (.cells mc 131)
    have hcp := copy_row_run (dc := n) (i := i0) Try.underlying108 hi (by rw [hz1]; exact hs) ha (by rw [hz1]; exact hmc) h1
    have hrow := setRow_heap (w.alloc (.cells mc 131)) w.heap.size mc xs.toArray 131 (0, 0) ha
    have HW := Lib.hid (own_big (size := 20) (n := n) hrow hn (by simpa using h.1))
    have HB := Lib.hid (hb1.trans ⟨rfl, rfl, rfl, by simp [World.setRow], fun k hk => setRow_other _ _ k _ (by omega)⟩ : Below w.heap.size w ((w.alloc (.cells mc 131)).setRow w.heap.size xs.toArray))
    generalize (w.alloc (.cells mc 131)).setRow w.heap.size xs.toArray = wz at *
    clear h h1 hs hb1 ha hi hz0 hz1 hz2 hmc hrow hg0 hn
    go_enter Try.func76, Try.ntmps76
    go_wp2_with fail
    go_ret
    exact ⟨rfl, HW.out, HB.out⟩
end Go.Proofs.Ytlflkdmbbomjeaa
