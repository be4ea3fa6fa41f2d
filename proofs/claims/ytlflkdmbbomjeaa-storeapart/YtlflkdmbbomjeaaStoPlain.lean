/-
  Things that need no store, and one of what was made, by contracts: plain, pick.
-/
import Derived.Test.YtlflkdmbbomjeaaStoRend
namespace Go.Proofs.Ytlflkdmbbomjeaa
open Go.RowKit
open St
def valC (k : Int) (e : Bool) (n : Int) (nm : ByteArray) : Array Value := #[.int .i64 k, .bool e, .int .i64 0, .int .i64 n, .string nm, .pointer none, .pointer none, .pointer none, .int .i64 0, .int .i64 0]
theorem whole_at (n : Int) (w : World) : Calls Try.prog 44 #[.int .i64 n] w fun e w' => e = .returned (.agg (valC 1 false n ⟨#[]⟩)) ∧ Below w.heap.size w w' := by
  go_enter Try.func44, Try.ntmps44
  go_wp2_with fail
  exact bodyPost_ret (v := .agg (valC 1 false n ⟨#[]⟩)) (by simp [results, Try.results44, go_sem, valC]) rfl ⟨rfl, below1 _ _⟩
theorem real_at (n : Int) (w : World) : Calls Try.prog 88 #[.int .i64 n] w fun e w' => e = .returned (.agg (valC 2 false n ⟨#[]⟩)) ∧ Below w.heap.size w w' := by
  go_enter Try.func88, Try.ntmps88
  go_wp2_with fail
  exact bodyPost_ret (v := .agg (valC 2 false n ⟨#[]⟩)) (by simp [results, Try.results88, go_sem, valC]) rfl ⟨rfl, below1 _ _⟩
theorem truth_at (w : World) : Calls Try.prog 89 #[.bool true] w fun e w' => e = .returned (.agg (valC 3 false 1 ⟨#[]⟩)) ∧ Below w.heap.size w w' := by
  go_enter Try.func89, Try.ntmps89
  go_wp2_with fail
  exact bodyPost_ret (v := .agg (valC 3 false 1 ⟨#[]⟩)) (by simp [results, Try.results89, go_sem, valC]) rfl ⟨rfl, below1 _ _⟩
/-- a plain thing, by its number -/
def plOb (n : Nat) : Ob := if n % 6 = 0 then nul else if n % 6 = 1 then ⟨1, false, 0, n, ⟨#[]⟩, 0, 0, 0⟩ else if n % 6 = 2 then ⟨2, false, 0, (n : Int) * 32768, ⟨#[]⟩, 0, 0, 0⟩ else if n % 6 = 3 then ⟨5, true, 0, 0, ⟨#[110]⟩ ++ ⟨(Lib.decDigits n).toArray⟩, 0, 0, 0⟩ else if n % 6 = 4 then ⟨3, false, 0, 1, ⟨#[]⟩, 0, 0, 0⟩ else ⟨4, false, 0, 0, ⟨#[]⟩, 0, 0, 0⟩
def plVa (n : Nat) : Array Value := if n % 6 = 0 then valC 0 false 0 ⟨#[]⟩ else if n % 6 = 1 then valC 1 false n ⟨#[]⟩ else if n % 6 = 2 then valC 2 false ((n : Int) * 32768) ⟨#[]⟩ else if n % 6 = 3 then valC 5 true 0 (⟨#[110]⟩ ++ ⟨(Lib.decDigits n).toArray⟩) else if n % 6 = 4 then valC 3 false 1 ⟨#[]⟩ else valC 4 false 0 ⟨#[]⟩
theorem good_mk {k n : Int} {ex : Bool} {nm : ByteArray} (h1 : 0 ≤ k ∧ k ≤ 10) (h2 : 0 ≤ n ∧ n ≤ 10000000) (h3 : nm.size ≤ 127) (rf fm ln : Int) : Good ⟨k, ex, 0, n, nm, rf, fm, ln⟩ := ⟨h1.1, h1.2, Int.le_refl _, (by decide : (0 : Int) ≤ 3), h2.1, h2.2, h3⟩
theorem nosize : (⟨#[]⟩ : ByteArray).size ≤ 127 := by decide
theorem plOb_good (n : Nat) (h : n < 100) : Good (plOb n) := by
  unfold plOb
  have h8 := dg_mk n (by omega)
  split
  · exact good_mk (by omega) (by omega) nosize _ _ _
  · split
    · exact good_mk (by omega) (by omega) nosize _ _ _
    · split
      · exact good_mk (by omega) (by omega) nosize _ _ _
      · split
        · refine good_mk (by omega) (by omega) ?_ _ _ _
          rw [cat_size, one_size]
          omega
        · split
          · exact good_mk (by omega) (by omega) nosize _ _ _
          · exact good_mk (by omega) (by omega) nosize _ _ _
theorem put10b {W : World} {B : Nat} {c0 c1 c2 c3 c4 c5 c6 c7 c8 c9 : Value} {t : TypeId} (h : W.heap[B]? = some (.cells #[c0, c1, c2, c3, c4, c5, c6, c7, c8, c9] t (0, 0))) : W.cell? ⟨B, 0, none⟩ = some c0 ∧ W.cell? ⟨B, 1, none⟩ = some c1 ∧ W.cell? ⟨B, 2, none⟩ = some c2 ∧ W.cell? ⟨B, 3, none⟩ = some c3 ∧ W.cell? ⟨B, 4, none⟩ = some c4 ∧ W.cell? ⟨B, 5, none⟩ = some c5 ∧ W.cell? ⟨B, 6, none⟩ = some c6 ∧ W.cell? ⟨B, 7, none⟩ = some c7 ∧ W.cell? ⟨B, 8, none⟩ = some c8 ∧ W.cell? ⟨B, 9, none⟩ = some c9 :=
  ⟨blk_cell h 0, blk_cell h 1, blk_cell h 2, blk_cell h 3, blk_cell h 4, blk_cell h 5, blk_cell h 6, blk_cell h 7, blk_cell h 8, blk_cell h 9⟩
structure Put10 (W : World) (B : Nat) (t : TypeId) (v0 v1 v2 v3 v4 v5 v6 v7 v8 v9 : Value) (w' : World) : Prop where
  blk : w'.heap[B]? = some (.cells #[v0, v1, v2, v3, v4, v5, v6, v7, v8, v9] t (0, 0))
  far : ∀ k, k ≠ B → w'.heap[k]? = W.heap[k]?
  size : w'.heap.size = W.heap.size
  os : w'.os = W.os
  tape : w'.tape = W.tape
  output : w'.output = W.output
theorem put10 {W : World} {B : Nat} {c0 c1 c2 c3 c4 c5 c6 c7 c8 c9 : Value} {t : TypeId} (h : W.heap[B]? = some (.cells #[c0, c1, c2, c3, c4, c5, c6, c7, c8, c9] t (0, 0))) (v0 v1 v2 v3 v4 v5 v6 v7 v8 v9 : Value) :
    Put10 W B t v0 v1 v2 v3 v4 v5 v6 v7 v8 v9 ((((((((((W.setCell ⟨B, 0, none⟩ v0).setCell ⟨B, 1, none⟩ v1).setCell ⟨B, 2, none⟩ v2).setCell ⟨B, 3, none⟩ v3).setCell ⟨B, 4, none⟩ v4).setCell ⟨B, 5, none⟩ v5).setCell ⟨B, 6, none⟩ v6).setCell ⟨B, 7, none⟩ v7).setCell ⟨B, 8, none⟩ v8).setCell ⟨B, 9, none⟩ v9) := by
  have a0 := blk_set h 0 v0
  rw [show (#[c0, c1, c2, c3, c4, c5, c6, c7, c8, c9] : Array Value).setIfInBounds 0 v0 = #[v0, c1, c2, c3, c4, c5, c6, c7, c8, c9] from rfl] at a0
  have a1 := blk_set a0 1 v1
  rw [show (#[v0, c1, c2, c3, c4, c5, c6, c7, c8, c9] : Array Value).setIfInBounds 1 v1 = #[v0, v1, c2, c3, c4, c5, c6, c7, c8, c9] from rfl] at a1
  have a2 := blk_set a1 2 v2
  rw [show (#[v0, v1, c2, c3, c4, c5, c6, c7, c8, c9] : Array Value).setIfInBounds 2 v2 = #[v0, v1, v2, c3, c4, c5, c6, c7, c8, c9] from rfl] at a2
  have a3 := blk_set a2 3 v3
  rw [show (#[v0, v1, v2, c3, c4, c5, c6, c7, c8, c9] : Array Value).setIfInBounds 3 v3 = #[v0, v1, v2, v3, c4, c5, c6, c7, c8, c9] from rfl] at a3
  have a4 := blk_set a3 4 v4
  rw [show (#[v0, v1, v2, v3, c4, c5, c6, c7, c8, c9] : Array Value).setIfInBounds 4 v4 = #[v0, v1, v2, v3, v4, c5, c6, c7, c8, c9] from rfl] at a4
  have a5 := blk_set a4 5 v5
  rw [show (#[v0, v1, v2, v3, v4, c5, c6, c7, c8, c9] : Array Value).setIfInBounds 5 v5 = #[v0, v1, v2, v3, v4, v5, c6, c7, c8, c9] from rfl] at a5
  have a6 := blk_set a5 6 v6
  rw [show (#[v0, v1, v2, v3, v4, v5, c6, c7, c8, c9] : Array Value).setIfInBounds 6 v6 = #[v0, v1, v2, v3, v4, v5, v6, c7, c8, c9] from rfl] at a6
  have a7 := blk_set a6 7 v7
  rw [show (#[v0, v1, v2, v3, v4, v5, v6, c7, c8, c9] : Array Value).setIfInBounds 7 v7 = #[v0, v1, v2, v3, v4, v5, v6, v7, c8, c9] from rfl] at a7
  have a8 := blk_set a7 8 v8
  rw [show (#[v0, v1, v2, v3, v4, v5, v6, v7, c8, c9] : Array Value).setIfInBounds 8 v8 = #[v0, v1, v2, v3, v4, v5, v6, v7, v8, c9] from rfl] at a8
  have a9 := blk_set a8 9 v9
  rw [show (#[v0, v1, v2, v3, v4, v5, v6, v7, v8, c9] : Array Value).setIfInBounds 9 v9 = #[v0, v1, v2, v3, v4, v5, v6, v7, v8, v9] from rfl] at a9
  exact ⟨a9, fun k hk => by rw [blk_far hk, blk_far hk, blk_far hk, blk_far hk, blk_far hk, blk_far hk, blk_far hk, blk_far hk, blk_far hk, blk_far hk], by simp only [setC_size], by simp only [setC_os], by simp only [setC_tape], by simp only [setC_output]⟩
theorem results_ov {fn : Func} {i j : Nat} (hfn : fn.results = #[.cell i 40, .cell j 45]) (tmps : Array Value) (W : World) (B C : Nat) {b0 b1 b2 b3 b4 b5 b6 b7 c0 c1 c2 c3 c4 c5 c6 c7 c8 c9 : Value} {t u : TypeId} (hp : tmps.getD i undef = .pointer (some ⟨B, 0, none⟩)) (hq : tmps.getD j undef = .pointer (some ⟨C, 0, none⟩))
    (h : W.heap[B]? = some (.cells #[b0, b1, b2, b3, b4, b5, b6, b7] t (0, 0))) (k : W.heap[C]? = some (.cells #[c0, c1, c2, c3, c4, c5, c6, c7, c8, c9] u (0, 0))) :
    (results fn tmps).run Try.prog W = .ok (.tuple #[.agg #[b0, b1, b2, b3, b4, b5, b6, b7], .agg #[c0, c1, c2, c3, c4, c5, c6, c7, c8, c9]]) W := by
  obtain ⟨h0, h1, h2, h3, h4, h5, h6, h7⟩ := cellsOb h
  obtain ⟨k0, k1, k2, k3, k4, k5, k6, k7, k8, k9⟩ := put10b k
  have hp2 : tmps[i]?.getD undef = .pointer (some ⟨B, 0, none⟩) := by rw [← hp]; simp
  have hq2 : tmps[j]?.getD undef = .pointer (some ⟨C, 0, none⟩) := by rw [← hq]; simp
  simp [results, hfn, go_sem, hp2, hq2, h0, h1, h2, h3, h4, h5, h6, h7, k0, k1, k2, k3, k4, k5, k6, k7, k8, k9]
/-- the two boxes of a result, behind what has been made since -/
theorem two_res {w w2 : World} {a b : Array Value} {t u : TypeId} (hb : Below ((w.alloc (.cells a t)).alloc (.cells b u)).heap.size ((w.alloc (.cells a t)).alloc (.cells b u)) w2) : w2.heap[w.heap.size]? = some (.cells a t (0, 0)) ∧ w2.heap[w.heap.size + 1]? = some (.cells b u (0, 0)) :=
  ⟨(hb.block _ (by simp; omega)).trans ((heap_alloc_old _ _ (by simp)).trans (heap_alloc_new w _)), (hb.block _ (by simp)).trans (alloc_at (by simp))⟩
theorem two_end {w w2 w3 w4 : World} {t u : TypeId} {a0 a1 a2 a3 a4 a5 a6 a7 v0 v1 v2 v3 v4 v5 v6 v7 v8 v9 : Value} (hb : Below w.heap.size w w2) (h1 : Put8 w2 w.heap.size t a0 a1 a2 a3 a4 a5 a6 a7 w3) (h2 : Put10 w3 (w.heap.size + 1) u v0 v1 v2 v3 v4 v5 v6 v7 v8 v9 w4) : Below w.heap.size w w4 :=
  ⟨h2.os.trans (h1.os.trans hb.os), h2.tape.trans (h1.tape.trans hb.tape), h2.output.trans (h1.output.trans hb.output), by rw [h2.size, h1.size]; exact hb.size, fun k hk => by rw [h2.far k (by omega), h1.far k (by omega), hb.block k hk]⟩
set_option maxRecDepth 100000 in
set_option maxHeartbeats 1000000 in
theorem plain_at (n : Nat) (hn : n < 100) (w : World) : Calls Try.prog 54 #[.int .i64 n] w fun e w' => e = .returned (.tuple #[(plOb n).val, .agg (plVa n)]) ∧ Below w.heap.size w w' := by
  have hrc : n % 6 = 0 ∨ n % 6 = 1 ∨ n % 6 = 2 ∨ n % 6 = 3 ∨ n % 6 = 4 ∨ n % 6 = 5 := by omega
  have HDc := Lib.hid (fun w => refDec_nat n w (by omega))
  have cN := cat_ok ⟨#[110]⟩ ⟨(Lib.decDigits n).toArray⟩ (by have := dg_mk n (by omega); rw [one_size]; omega)
  rcases hrc with hr | hr | hr | hr | hr | hr
  · have hri : (n : Int) % 6 = 0 := by omega
    rw [show plOb n = nul by unfold plOb; rw [hr]; rfl, show plVa n = valC 0 false 0 ⟨#[]⟩ by unfold plVa; rw [hr]; rfl]
    clear hr
    go_enter Try.func54, Try.ntmps54
    go_wp2_with fail
    exact bodyPost_ret (results_ov Try.results54 _ _ w.heap.size (w.heap.size + 1) rfl rfl ((heap_alloc_old _ _ (by simp)).trans (heap_alloc_new w _)) (alloc_at (by simp))) rfl ⟨rfl, below2 w _ _⟩
  · have hri : (n : Int) % 6 = 1 := by omega
    rw [show plOb n = ⟨1, false, 0, n, ⟨#[]⟩, 0, 0, 0⟩ by unfold plOb; rw [hr]; rfl, show plVa n = valC 1 false n ⟨#[]⟩ by unfold plVa; rw [hr]; rfl]
    clear hr
    go_enter Try.func54, Try.ntmps54
    go_wp2_with fail
    refine (whole_at _ _).mono ?_; rintro e w2 ⟨rfl, hb⟩
    unfold valC
    obtain ⟨hq1, hq2⟩ := two_res hb
    obtain ⟨d0, d1, d2, d3, d4, d5, d6, d7⟩ := cellsOb hq1
    obtain ⟨f0, f1, f2, f3, f4, f5, f6, f7, f8, f9⟩ := put10b hq2
    have g1 := blk_free hq1
    have g2 := blk_free hq2
    have hp := put8 hq1 (.int .i64 1) (.bool false) (.int .i64 0) (.int .i64 n) (.string ⟨#[]⟩) (.int .i64 0) (.int .i64 0) (.int .i64 0)
    have hq3 := (hp.far (w.heap.size + 1) (by omega)).trans hq2
    have hq := put10 hq3 (.int .i64 1) (.bool false) (.int .i64 0) (.int .i64 n) (.string ⟨#[]⟩) (.pointer none) (.pointer none) (.pointer none) (.int .i64 0) (.int .i64 0)
    have HP := Lib.hid hp
    have HQ := Lib.hid hq
    have HB := Lib.hid (bthen (below2 w _ _) hb)
    clear hq1 hq2 hp hq3 hq hb
    go_wp2_with fail
    exact bodyPost_ret (results_ov Try.results54 _ _ w.heap.size (w.heap.size + 1) rfl rfl ((HQ.out.far w.heap.size (by omega)).trans HP.out.blk) HQ.out.blk) rfl ⟨rfl, two_end HB.out HP.out HQ.out⟩
  · have hri : (n : Int) % 6 = 2 := by omega
    rw [show plOb n = ⟨2, false, 0, (n : Int) * 32768, ⟨#[]⟩, 0, 0, 0⟩ by unfold plOb; rw [hr]; rfl, show plVa n = valC 2 false ((n : Int) * 32768) ⟨#[]⟩ by unfold plVa; rw [hr]; rfl]
    clear hr
    go_enter Try.func54, Try.ntmps54
    go_wp2_with fail
    refine (real_at _ _).mono ?_; rintro e w2 ⟨rfl, hb⟩
    unfold valC
    obtain ⟨hq1, hq2⟩ := two_res hb
    obtain ⟨d0, d1, d2, d3, d4, d5, d6, d7⟩ := cellsOb hq1
    obtain ⟨f0, f1, f2, f3, f4, f5, f6, f7, f8, f9⟩ := put10b hq2
    have g1 := blk_free hq1
    have g2 := blk_free hq2
    have hp := put8 hq1 (.int .i64 2) (.bool false) (.int .i64 0) (.int .i64 ((n : Int) * 32768)) (.string ⟨#[]⟩) (.int .i64 0) (.int .i64 0) (.int .i64 0)
    have hq3 := (hp.far (w.heap.size + 1) (by omega)).trans hq2
    have hq := put10 hq3 (.int .i64 2) (.bool false) (.int .i64 0) (.int .i64 ((n : Int) * 32768)) (.string ⟨#[]⟩) (.pointer none) (.pointer none) (.pointer none) (.int .i64 0) (.int .i64 0)
    have HP := Lib.hid hp
    have HQ := Lib.hid hq
    have HB := Lib.hid (bthen (below2 w _ _) hb)
    clear hq1 hq2 hp hq3 hq hb
    go_wp2_with fail
    exact bodyPost_ret (results_ov Try.results54 _ _ w.heap.size (w.heap.size + 1) rfl rfl ((HQ.out.far w.heap.size (by omega)).trans HP.out.blk) HQ.out.blk) rfl ⟨rfl, two_end HB.out HP.out HQ.out⟩
  · have hri : (n : Int) % 6 = 3 := by omega
    rw [show plOb n = ⟨5, true, 0, 0, ⟨#[110]⟩ ++ ⟨(Lib.decDigits n).toArray⟩, 0, 0, 0⟩ by unfold plOb; rw [hr]; rfl, show plVa n = valC 5 true 0 (⟨#[110]⟩ ++ ⟨(Lib.decDigits n).toArray⟩) by unfold plVa; rw [hr]; rfl]
    clear hr
    go_enter Try.func54, Try.ntmps54
    go_wp2_with fail
    refine (HDc.out _).mono ?_; rintro e w2 ⟨rfl, hb2⟩
    have HB2 := Lib.hid hb2
    clear hb2
    go_wp2_with fail
    refine (HDc.out _).mono ?_; rintro e w3 ⟨rfl, hb3⟩
    have hb := bthen HB2.out hb3
    clear hb3
    obtain ⟨hq1, hq2⟩ := two_res hb
    obtain ⟨d0, d1, d2, d3, d4, d5, d6, d7⟩ := cellsOb hq1
    obtain ⟨f0, f1, f2, f3, f4, f5, f6, f7, f8, f9⟩ := put10b hq2
    have g1 := blk_free hq1
    have g2 := blk_free hq2
    have hp := put8 hq1 (.int .i64 5) (.bool true) (.int .i64 0) (.int .i64 0) (.string (⟨#[110]⟩ ++ ⟨(Lib.decDigits n).toArray⟩)) (.int .i64 0) (.int .i64 0) (.int .i64 0)
    have hq3 := (hp.far (w.heap.size + 1) (by omega)).trans hq2
    have hq := put10 hq3 (.int .i64 5) (.bool true) (.int .i64 0) (.int .i64 0) (.string (⟨#[110]⟩ ++ ⟨(Lib.decDigits n).toArray⟩)) (.pointer none) (.pointer none) (.pointer none) (.int .i64 0) (.int .i64 0)
    have HP := Lib.hid hp
    have HQ := Lib.hid hq
    have HB := Lib.hid (bthen (below2 w _ _) hb)
    clear hq1 hq2 hp hq3 hq hb
    go_wp2_with fail
    exact bodyPost_ret (results_ov Try.results54 _ _ w.heap.size (w.heap.size + 1) rfl rfl ((HQ.out.far w.heap.size (by omega)).trans HP.out.blk) HQ.out.blk) rfl ⟨rfl, two_end HB.out HP.out HQ.out⟩
  · have hri : (n : Int) % 6 = 4 := by omega
    rw [show plOb n = ⟨3, false, 0, 1, ⟨#[]⟩, 0, 0, 0⟩ by unfold plOb; rw [hr]; rfl, show plVa n = valC 3 false 1 ⟨#[]⟩ by unfold plVa; rw [hr]; rfl]
    clear hr
    go_enter Try.func54, Try.ntmps54
    go_wp2_with fail
    refine (truth_at _).mono ?_; rintro e w2 ⟨rfl, hb⟩
    unfold valC
    obtain ⟨hq1, hq2⟩ := two_res hb
    obtain ⟨d0, d1, d2, d3, d4, d5, d6, d7⟩ := cellsOb hq1
    obtain ⟨f0, f1, f2, f3, f4, f5, f6, f7, f8, f9⟩ := put10b hq2
    have g1 := blk_free hq1
    have g2 := blk_free hq2
    have hp := put8 hq1 (.int .i64 3) (.bool false) (.int .i64 0) (.int .i64 1) (.string ⟨#[]⟩) (.int .i64 0) (.int .i64 0) (.int .i64 0)
    have hq3 := (hp.far (w.heap.size + 1) (by omega)).trans hq2
    have hq := put10 hq3 (.int .i64 3) (.bool false) (.int .i64 0) (.int .i64 1) (.string ⟨#[]⟩) (.pointer none) (.pointer none) (.pointer none) (.int .i64 0) (.int .i64 0)
    have HP := Lib.hid hp
    have HQ := Lib.hid hq
    have HB := Lib.hid (bthen (below2 w _ _) hb)
    clear hq1 hq2 hp hq3 hq hb
    go_wp2_with fail
    exact bodyPost_ret (results_ov Try.results54 _ _ w.heap.size (w.heap.size + 1) rfl rfl ((HQ.out.far w.heap.size (by omega)).trans HP.out.blk) HQ.out.blk) rfl ⟨rfl, two_end HB.out HP.out HQ.out⟩
  · have hri : (n : Int) % 6 = 5 := by omega
    rw [show plOb n = ⟨4, false, 0, 0, ⟨#[]⟩, 0, 0, 0⟩ by unfold plOb; rw [hr]; rfl, show plVa n = valC 4 false 0 ⟨#[]⟩ by unfold plVa; rw [hr]; rfl]
    clear hr
    go_enter Try.func54, Try.ntmps54
    go_wp2_with fail
    exact bodyPost_ret (results_ov Try.results54 _ _ w.heap.size (w.heap.size + 1) rfl rfl ((heap_alloc_old _ _ (by simp)).trans (heap_alloc_new w _)) (alloc_at (by simp))) rfl ⟨rfl, below2 w _ _⟩
end Go.Proofs.Ytlflkdmbbomjeaa
