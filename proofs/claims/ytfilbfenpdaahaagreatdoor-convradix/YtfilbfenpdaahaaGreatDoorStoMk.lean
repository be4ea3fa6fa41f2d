/-
  Making things, by contracts: claim (cells are taken), hold (a thing is taken up).
Blocks known whole: what is written into them, and what is answered out of them.
A thing is taken up, by a contract: hold.
New rows: what make makes, a copy of bytes (clone), and a thing that is taken up into a store (hold), of the store as a whole.
New stores and new things, by contracts: New, Free, Array, Text, String, Dict.
Questions to a store, and what is put, by contracts: Part, Valid, last, fill, Put, Bytes, Items, At.
New things, by contracts: Array, String, Text, Dict.
-/
import Derived.Test.YtfilbfenpdaahaaGreatDoorStoTold3
import Derived.StillTailTactics
import Derived.Deep.RegionHeld3
import Derived.Deep.RegionLaw
import Derived.Deep.DeepCutAuto
import Derived.Laws.CopyOwn
import Derived.Laws.MakeOwn
namespace Go.Proofs.YtfilbfenpdaahaaGreatDoor
open Go.RowKit
open St
def mostI (k : Int) : Int := if k = 6 then 65535 else if k = 7 then 65535 else 4096
def cellsI (k n : Int) : Int := if k = 6 then 1 + (n + 7) / 8 else if k = 7 then 1 + n else 1 + 2 * n
/-- why there can't be one of length n -/
def clm (k n fr : Int) : Int := if n < 0 then 11 else if mostI k < n then 9 else if fr < cellsI k n then 20 else 0
theorem mostOf_at (k : Int) (w : World) : Calls Tryz.prog 31 #[.int .i64 k] w fun e w' => e = .returned (.int .i64 (mostI k)) ∧ w' = w := by
  unfold mostI
  by_cases k6 : k = 6
  · subst k6
    go_enter Tryz.func31, Tryz.ntmps31
    go_wp2
    go_ret
    exact ⟨rfl, rfl⟩
  · by_cases k7 : k = 7
    · subst k7
      go_enter Tryz.func31, Tryz.ntmps31
      go_wp2
      go_ret
      exact ⟨rfl, rfl⟩
    · have e6 : (k == 6) = false := by simp [k6]
      have e7 : (k == 7) = false := by simp [k7]
      rw [if_neg k6, if_neg k7]
      clear k6 k7
      go_enter Tryz.func31, Tryz.ntmps31
      go_wp2
      go_ret
      exact ⟨rfl, rfl⟩
theorem cellsOf_at (k : Int) (n : Nat) (hn : n ≤ 65535) (w : World) : Calls Tryz.prog 32 #[.int .i64 k, .int .i64 n] w fun e w' => e = .returned (.int .i64 (cellsI k n)) ∧ w' = w := by
  unfold cellsI
  by_cases k6 : k = 6
  · subst k6
    go_enter Tryz.func32, Tryz.ntmps32
    go_wp2
    go_ret
    exact ⟨by simp, rfl⟩
  · by_cases k7 : k = 7
    · subst k7
      go_enter Tryz.func32, Tryz.ntmps32
      go_wp2
      go_ret
      exact ⟨by simp, rfl⟩
    · have e6 : (k == 6) = false := by simp [k6]
      have e7 : (k == 7) = false := by simp [k7]
      rw [if_neg k6, if_neg k7]
      clear k6 k7
      go_enter Tryz.func32, Tryz.ntmps32
      go_wp2
      go_ret
      exact ⟨by simp, rfl⟩
theorem cellsI_bounds {k : Int} {n : Nat} (hn : n ≤ 65535) : 1 ≤ cellsI k n ∧ cellsI k n ≤ 200000 := by unfold cellsI; split <;> (try split) <;> omega
theorem mostI_le (k : Int) : 4096 ≤ mostI k ∧ mostI k ≤ 65535 := by unfold mostI; split <;> (try split) <;> omega
theorem claim_at {w : World} {s : Nat} {k n fr : Int} (h2 : w.cell? ⟨s, 2, none⟩ = some (.int .i64 fr)) (hf : w.frozen? ⟨s, 2, none⟩ = false) (h0 : 0 ≤ fr) (h1 : fr ≤ 1048576) :
    Calls Tryz.prog 15 #[.pointer (some ⟨s, 0, none⟩), .int .i64 k, .int .i64 n] w fun e w' => e = .returned (.int .i64 (clm k n fr)) ∧ w' = if clm k n fr = 0 then w.setCell ⟨s, 2, none⟩ (.int .i64 (fr - cellsI k n)) else w := by
  have HM := Lib.hid (mostOf_at k)
  have hml := mostI_le k
  unfold clm
  generalize mostI k = mo at *
  by_cases hn : n < 0
  · rw [if_pos hn]
    go_enter Tryz.func15, Tryz.ntmps15
    go_wp2_with fail
    go_ret
    exact ⟨rfl, rfl⟩
  · rw [if_neg hn]
    by_cases hm : mo < n
    · rw [if_pos hm]
      go_enter Tryz.func15, Tryz.ntmps15
      go_wp2_with fail
      refine (HM.out _).mono ?_; rintro e w2 ⟨rfl, rfl⟩
      go_wp2_with fail
      go_ret
      exact ⟨rfl, rfl⟩
    · rw [if_neg hm]
      obtain ⟨m, rfl⟩ : ∃ m : Nat, n = m := ⟨n.toNat, by omega⟩
      have HC := Lib.hid (fun w => cellsOf_at k m (by omega) w)
      have hcb := cellsI_bounds (k := k) (n := m) (by omega)
      generalize cellsI k m = c at *
      by_cases hc : fr < c
      · rw [if_pos hc]
        go_enter Tryz.func15, Tryz.ntmps15
        go_wp2_with fail
        refine (HM.out _).mono ?_; rintro e w2 ⟨rfl, rfl⟩
        go_wp2_with fail
        refine (HC.out _).mono ?_; rintro e w2 ⟨rfl, rfl⟩
        go_wp2_with fail
        go_ret
        exact ⟨rfl, rfl⟩
      · rw [if_neg hc]
        go_enter Tryz.func15, Tryz.ntmps15
        go_wp2_with fail
        refine (HM.out _).mono ?_; rintro e w2 ⟨rfl, rfl⟩
        go_wp2_with fail
        refine (HC.out _).mono ?_; rintro e w2 ⟨rfl, rfl⟩
        go_wp2_with fail
        go_ret
        exact ⟨rfl, rfl⟩
end Go.Proofs.YtfilbfenpdaahaaGreatDoor
namespace Go.Proofs.YtfilbfenpdaahaaGreatDoor
open Go.RowKit
open St
theorem alloc_at {W : World} {o : Obj} {k : Nat} (h : W.heap.size = k) : (W.alloc o).heap[k]? = some o := by subst h; exact heap_alloc_new W o
theorem blk_set {W : World} {B : Nat} {cs : Array Value} {t : TypeId} {fr : Nat × Nat} (h : W.heap[B]? = some (.cells cs t fr)) (j : Nat) (v : Value) : (W.setCell ⟨B, j, none⟩ v).heap[B]? = some (.cells (cs.setIfInBounds j v) t fr) := by
  simp only [World.setCell, Array.getElem?_modify, if_true, h, Option.map_some, Option.isSome_none]
  rfl
theorem blk_far {W : World} {B b j : Nat} (h : b ≠ B) (v : Value) : (W.setCell ⟨B, j, none⟩ v).heap[b]? = W.heap[b]? := Below.heap_setCell _ _ _ _ h
theorem blk_cell {W : World} {B : Nat} {cs : Array Value} {t : TypeId} {fr : Nat × Nat} (h : W.heap[B]? = some (.cells cs t fr)) (j : Nat) : W.cell? ⟨B, j, none⟩ = cs[j]? := by simp [World.cell?, h]
theorem blk_free {W : World} {B : Nat} {cs : Array Value} {t : TypeId} (h : W.heap[B]? = some (.cells cs t (0, 0))) (j : Nat) : W.frozen? ⟨B, j, none⟩ = false := by simp [World.frozen?, h]
theorem own_ne {w : World} {s base n size : Nat} {e t : TypeId} {v : Value} {cs : Array Value} {fr : Nat × Nat} {xs : List Value} (hs : w.heap[s]? = some (.cells cs t fr)) (h : w.ownsRow base e size v n xs) (hne : t ≠ e) : some s ≠ v.ownBlock := by
  intro e1
  rcases h.2 with ⟨rfl, _⟩ | ⟨g, cap, cur, rfl, _, hg, _⟩
  · cases e1
  · have : s = g := by simpa [Value.ownBlock] using e1
    subst this
    rw [hs] at hg
    cases hg
    exact hne rfl
theorem isB_ne {g k s n c : Nat} (hk : isB (.slice (some ⟨g, 0, none⟩) n c) k) (h : g ≠ s) : k ≠ s := by
  have : g = k := by simpa [isB, Value.ownBlock] using hk
  omega
theorem own_other {W : World} {base gg n cap size B : Nat} {e t : TypeId} {xs : List Value} {cs : Array Value} {fr : Nat × Nat} (h : W.ownsRow base e size (.slice (some ⟨gg, 0, none⟩) n cap) n xs) (hB : W.heap[B]? = some (.cells cs t fr)) (hne : t ≠ e := by decide) : gg ≠ B := by
  intro e1
  exact own_ne hB h hne (by rw [← e1]; rfl)
theorem put8b {W : World} {B : Nat} {c0 c1 c2 c3 c4 c5 c6 c7 : Value} {t : TypeId} (h : W.heap[B]? = some (.cells #[c0, c1, c2, c3, c4, c5, c6, c7] t (0, 0))) (v0 v1 v2 v3 v4 v5 v6 v7 : Value) :
    ((((((((W.setCell ⟨B, 0, none⟩ v0).setCell ⟨B, 1, none⟩ v1).setCell ⟨B, 2, none⟩ v2).setCell ⟨B, 3, none⟩ v3).setCell ⟨B, 4, none⟩ v4).setCell ⟨B, 5, none⟩ v5).setCell ⟨B, 6, none⟩ v6).setCell ⟨B, 7, none⟩ v7).heap[B]? = some (.cells #[v0, v1, v2, v3, v4, v5, v6, v7] t (0, 0)) := by
  have a0 := blk_set h 0 v0
  rw [show (#[c0, c1, c2, c3, c4, c5, c6, c7] : Array Value).setIfInBounds 0 v0 = #[v0, c1, c2, c3, c4, c5, c6, c7] from rfl] at a0
  have a1 := blk_set a0 1 v1
  rw [show (#[v0, c1, c2, c3, c4, c5, c6, c7] : Array Value).setIfInBounds 1 v1 = #[v0, v1, c2, c3, c4, c5, c6, c7] from rfl] at a1
  have a2 := blk_set a1 2 v2
  rw [show (#[v0, v1, c2, c3, c4, c5, c6, c7] : Array Value).setIfInBounds 2 v2 = #[v0, v1, v2, c3, c4, c5, c6, c7] from rfl] at a2
  have a3 := blk_set a2 3 v3
  rw [show (#[v0, v1, v2, c3, c4, c5, c6, c7] : Array Value).setIfInBounds 3 v3 = #[v0, v1, v2, v3, c4, c5, c6, c7] from rfl] at a3
  have a4 := blk_set a3 4 v4
  rw [show (#[v0, v1, v2, v3, c4, c5, c6, c7] : Array Value).setIfInBounds 4 v4 = #[v0, v1, v2, v3, v4, c5, c6, c7] from rfl] at a4
  have a5 := blk_set a4 5 v5
  rw [show (#[v0, v1, v2, v3, v4, c5, c6, c7] : Array Value).setIfInBounds 5 v5 = #[v0, v1, v2, v3, v4, v5, c6, c7] from rfl] at a5
  have a6 := blk_set a5 6 v6
  rw [show (#[v0, v1, v2, v3, v4, v5, c6, c7] : Array Value).setIfInBounds 6 v6 = #[v0, v1, v2, v3, v4, v5, v6, c7] from rfl] at a6
  have a7 := blk_set a6 7 v7
  rw [show (#[v0, v1, v2, v3, v4, v5, v6, c7] : Array Value).setIfInBounds 7 v7 = #[v0, v1, v2, v3, v4, v5, v6, v7] from rfl] at a7
  exact a7
theorem setC_os (W : World) (a : Addr) (v : Value) : (W.setCell a v).os = W.os := rfl
theorem setC_tape (W : World) (a : Addr) (v : Value) : (W.setCell a v).tape = W.tape := rfl
theorem setC_output (W : World) (a : Addr) (v : Value) : (W.setCell a v).output = W.output := rfl
theorem setC_size (W : World) (a : Addr) (v : Value) : (W.setCell a v).heap.size = W.heap.size := by simp [World.setCell]
/-- block B has these eight cells now, all else is as it was -/
structure Put8 (W : World) (B : Nat) (t : TypeId) (v0 v1 v2 v3 v4 v5 v6 v7 : Value) (w' : World) : Prop where
  blk : w'.heap[B]? = some (.cells #[v0, v1, v2, v3, v4, v5, v6, v7] t (0, 0))
  far : ∀ k, k ≠ B → w'.heap[k]? = W.heap[k]?
  size : w'.heap.size = W.heap.size
  os : w'.os = W.os
  tape : w'.tape = W.tape
  output : w'.output = W.output
theorem put8 {W : World} {B : Nat} {c0 c1 c2 c3 c4 c5 c6 c7 : Value} {t : TypeId} (h : W.heap[B]? = some (.cells #[c0, c1, c2, c3, c4, c5, c6, c7] t (0, 0))) (v0 v1 v2 v3 v4 v5 v6 v7 : Value) :
    Put8 W B t v0 v1 v2 v3 v4 v5 v6 v7 ((((((((W.setCell ⟨B, 0, none⟩ v0).setCell ⟨B, 1, none⟩ v1).setCell ⟨B, 2, none⟩ v2).setCell ⟨B, 3, none⟩ v3).setCell ⟨B, 4, none⟩ v4).setCell ⟨B, 5, none⟩ v5).setCell ⟨B, 6, none⟩ v6).setCell ⟨B, 7, none⟩ v7) :=
  ⟨put8b h v0 v1 v2 v3 v4 v5 v6 v7, fun k hk => by rw [blk_far hk, blk_far hk, blk_far hk, blk_far hk, blk_far hk, blk_far hk, blk_far hk, blk_far hk], by simp only [setC_size], by simp only [setC_os], by simp only [setC_tape], by simp only [setC_output]⟩
theorem results_ob1 {fn : Func} {i : Nat} (hfn : fn.results = #[.cell i 27]) (tmps : Array Value) (W : World) (B : Nat) {c0 c1 c2 c3 c4 c5 c6 c7 : Value} {t : TypeId} (hp : tmps.getD i undef = .pointer (some ⟨B, 0, none⟩)) (h : W.heap[B]? = some (.cells #[c0, c1, c2, c3, c4, c5, c6, c7] t (0, 0))) :
    (results fn tmps).run Tryz.prog W = .ok (.agg #[c0, c1, c2, c3, c4, c5, c6, c7]) W := by
  have h0 : W.cell? ⟨B, 0, none⟩ = some c0 := blk_cell h 0
  have h1 : W.cell? ⟨B, 1, none⟩ = some c1 := blk_cell h 1
  have h2 : W.cell? ⟨B, 2, none⟩ = some c2 := blk_cell h 2
  have h3 : W.cell? ⟨B, 3, none⟩ = some c3 := blk_cell h 3
  have h4 : W.cell? ⟨B, 4, none⟩ = some c4 := blk_cell h 4
  have h5 : W.cell? ⟨B, 5, none⟩ = some c5 := blk_cell h 5
  have h6 : W.cell? ⟨B, 6, none⟩ = some c6 := blk_cell h 6
  have h7 : W.cell? ⟨B, 7, none⟩ = some c7 := blk_cell h 7
  have hp2 : tmps[i]?.getD undef = .pointer (some ⟨B, 0, none⟩) := by rw [← hp]; simp
  simp [results, hfn, go_sem, hp2, h0, h1, h2, h3, h4, h5, h6, h7]
theorem results_ob2 {fn : Func} {i j : Nat} (hfn : fn.results = #[.cell i 27, .tmp j]) (tmps : Array Value) (W : World) (B : Nat) {c0 c1 c2 c3 c4 c5 c6 c7 v : Value} {t : TypeId} (hp : tmps.getD i undef = .pointer (some ⟨B, 0, none⟩)) (hv : tmps.getD j undef = v) (h : W.heap[B]? = some (.cells #[c0, c1, c2, c3, c4, c5, c6, c7] t (0, 0))) :
    (results fn tmps).run Tryz.prog W = .ok (.tuple #[.agg #[c0, c1, c2, c3, c4, c5, c6, c7], v]) W := by
  have h0 : W.cell? ⟨B, 0, none⟩ = some c0 := blk_cell h 0
  have h1 : W.cell? ⟨B, 1, none⟩ = some c1 := blk_cell h 1
  have h2 : W.cell? ⟨B, 2, none⟩ = some c2 := blk_cell h 2
  have h3 : W.cell? ⟨B, 3, none⟩ = some c3 := blk_cell h 3
  have h4 : W.cell? ⟨B, 4, none⟩ = some c4 := blk_cell h 4
  have h5 : W.cell? ⟨B, 5, none⟩ = some c5 := blk_cell h 5
  have h6 : W.cell? ⟨B, 6, none⟩ = some c6 := blk_cell h 6
  have h7 : W.cell? ⟨B, 7, none⟩ = some c7 := blk_cell h 7
  have hp2 : tmps[i]?.getD undef = .pointer (some ⟨B, 0, none⟩) := by rw [← hp]; simp
  have hv2 : tmps[j]?.getD undef = v := by rw [← hv]; simp
  simp [results, hfn, go_sem, hp2, hv2, h0, h1, h2, h3, h4, h5, h6, h7]
end Go.Proofs.YtfilbfenpdaahaaGreatDoor
namespace Go.Proofs.YtfilbfenpdaahaaGreatDoor
open Go.RowKit
open St
theorem thing_info : (Tryz.prog.info? 69).map (fun i => (i.zero, i.size, i.bytes)) = some (some (.agg #[.int .i64 0, .int .i64 0, .slice none 0 0, .slice none 0 0, .slice none 0 0, .int .i64 0, .int .i64 0]), 7, 104) := by kernel_rfl
/-- of two worlds: only block s, the row of tv, and new blocks differ -/
structure Two (s : Nat) (tv : Value) (w w' : World) : Prop where
  os : w'.os = w.os
  tape : w'.tape = w.tape
  output : w'.output = w.output
  size : w.heap.size ≤ w'.heap.size
  block : ∀ k, k < w.heap.size → k ≠ s → some k ≠ tv.ownBlock → w'.heap[k]? = w.heap[k]?
def zeroOb : Array Value := #[.int .i64 0, .bool false, .int .i64 0, .int .i64 0, .string ⟨#[]⟩, .int .i64 0, .int .i64 0, .int .i64 0]
/-- a thing has come to the row: where what is -/
def Mid (w : World) (s n nn : Nat) (tv : Value) (fr : Int) (am acc : Option Addr) (cm cc : Nat) (xs cs : List Value) (t o : Array Value) (wx : World) : Prop :=
  ∃ gg cap, wx.heap[s]? = some (.cells #[.slice (some ⟨gg, 0, none⟩) nn cap, .int .i64 ((n : Int) + 1), .int .i64 fr, .slice am 0 cm, .int .i64 0, .slice acc 0 cc] 63 (0, 0)) ∧
    wx.ownsRow 0 69 7 (.slice (some ⟨gg, 0, none⟩) nn cap) nn (xs ++ cs) ∧ (tv.ownBlock = some gg ∨ w.heap.size ≤ gg) ∧ gg < wx.heap.size ∧
    wx.heap[w.heap.size]? = some (.cells t 69 (0, 0)) ∧ wx.heap[w.heap.size + 1]? = some (.cells o 27 (0, 0)) ∧ Two s tv w wx
theorem mid_of {w W w1 : World} {s n nn gg cap cm cc : Nat} {tv : Value} {fr : Int} {am acc : Option Addr} {xs cs : List Value} {t o : Array Value} {ob : Obj} {D : World} (hlt : s < w.heap.size) (hsne : some s ≠ tv.ownBlock) (hHne : some w.heap.size ≠ tv.ownBlock) (hH1 : some (w.heap.size + 1) ≠ tv.ownBlock) (hsz : W.heap.size = w.heap.size + 2)
    (hWt : W.heap[w.heap.size]? = some (.cells t 69 (0, 0))) (hWo : W.heap[w.heap.size + 1]? = some (.cells o 27 (0, 0))) (hWb : ∀ k, k < w.heap.size → k ≠ s → W.heap[k]? = w.heap[k]?) (hWe : W.os = w.os ∧ W.tape = w.tape ∧ W.output = w.output)
    (hown : w1.ownsRow 0 69 7 (.slice (some ⟨gg, 0, none⟩) nn cap) nn (xs ++ cs)) (hgrow : D.grownBy w1 tv.ownBlock) (hD : D.heap = (W.alloc ob).heap ∧ D.os = W.os ∧ D.tape = W.tape ∧ D.output = W.output) (hat : tv.ownBlock = some gg ∨ gg = w.heap.size + 3) (hlt1 : gg < w1.heap.size)
    (hb0 : w1.heap[s]? = some (.cells #[tv, .int .i64 ((n : Int) + 1), .int .i64 fr, .slice am 0 cm, .int .i64 0, .slice acc 0 cc] 63 (0, 0))) :
    Mid w s n nn tv fr am acc cm cc xs cs t o (w1.setCell ⟨s, 0, none⟩ (.slice (some ⟨gg, 0, none⟩) nn cap)) := by
  obtain ⟨dh, d1, d2, d3⟩ := hD
  have hDs : D.heap.size = w.heap.size + 3 := by rw [dh]; simp [hsz]
  have hb : ∀ k, k < w.heap.size + 2 → some k ≠ tv.ownBlock → w1.heap[k]? = W.heap[k]? := fun k hk hne => by rw [hgrow.block k (by omega) hne, dh, heap_alloc_old _ _ (by omega)]
  have hgs : gg ≠ s := by
    rcases hat with e | e
    · intro e2; rw [e2] at e; exact hsne e.symm
    · omega
  refine ⟨gg, cap, blk_set hb0 0 _, owns_same hown (fun k hk => blk_far (isB_ne hk hgs) _), ?_, by simpa [World.setCell] using hlt1, ?_, ?_, ?_⟩
  · rcases hat with e | e
    · exact .inl e
    · exact .inr (by omega)
  · rw [blk_far (by omega), hb _ (by omega) hHne, hWt]
  · rw [blk_far (by omega), hb _ (by omega) hH1, hWo]
  · refine ⟨hgrow.os.trans (d1.trans hWe.1), hgrow.tape.trans (d2.trans hWe.2.1), hgrow.output.trans (d3.trans hWe.2.2), by have := hgrow.size; simp [World.setCell]; omega, fun k hk hks hne => ?_⟩
    rw [blk_far hks, hb k (by omega) hne, hWb k hk hks]
theorem hold_end {w wc w' : World} {s n gg cap cm cc : Nat} {tv : Value} {fr : Int} {am acc : Option Addr} {xs cs : List Value} (hlt : s < w.heap.size)
    (hs : wc.heap[s]? = some (.cells #[.slice (some ⟨gg, 0, none⟩) (n + 1) cap, .int .i64 ((n : Int) + 1), .int .i64 fr, .slice am 0 cm, .int .i64 0, .slice acc 0 cc] 63 (0, 0))) (ho : wc.ownsRow 0 69 7 (.slice (some ⟨gg, 0, none⟩) (n + 1) cap) (n + 1) (xs ++ cs))
    (ha : (tv.ownBlock = some gg ∨ w.heap.size ≤ gg) ∧ gg < wc.heap.size) (ht : Two s tv w wc) (hgo : gg ≠ w.heap.size + 1) (e2 : ∀ k, k ≠ w.heap.size + 1 → w'.heap[k]? = wc.heap[k]?) (e3 : w'.heap.size = wc.heap.size) (e4 : w'.os = wc.os ∧ w'.tape = wc.tape ∧ w'.output = wc.output) :
    ∃ g cap, w'.heap[s]? = some (.cells #[.slice (some ⟨g, 0, none⟩) (n + 1) cap, .int .i64 (n + 1 : Nat), .int .i64 fr, .slice am 0 cm, .int .i64 0, .slice acc 0 cc] 63 (0, 0)) ∧
        w'.ownsRow 0 69 7 (.slice (some ⟨g, 0, none⟩) (n + 1) cap) (n + 1) (xs ++ cs) ∧ (tv.ownBlock = some g ∨ w.heap.size ≤ g) ∧ g < w'.heap.size ∧ Two s tv w w' := by
  refine ⟨gg, cap, (e2 s (by omega)).trans hs, owns_same ho (fun k hk => e2 k (isB_ne hk hgo)), ha.1, by rw [e3]; exact ha.2, ?_⟩
  exact ⟨e4.1.trans ht.os, e4.2.1.trans ht.tape, e4.2.2.trans ht.output, by rw [e3]; exact ht.size, fun k hk hks hne => (e2 k (by omega)).trans (ht.block k hk hks hne)⟩
set_option maxRecDepth 100000 in
set_option maxHeartbeats 4000000 in
theorem hold_at {w : World} {s nb ni np cb ci cp cm cc : Nat} {kd mo ac fr : Int} {n : Nat} {tv : Value} {ab ai ap am acc : Option Addr} {xs : List Value}
    (hs : w.heap[s]? = some (.cells #[tv, .int .i64 n, .int .i64 fr, .slice am 0 cm, .int .i64 0, .slice acc 0 cc] 63 (0, 0))) (hown : w.ownsRow 0 69 7 tv n xs) (hn : n ≤ 1048576) :
    Calls Tryz.prog 16 #[.pointer (some ⟨s, 0, none⟩), .agg #[.int .i64 0, .int .i64 kd, .slice ab nb cb, .slice ai ni ci, (.slice ap np cp), .int .i64 mo, .int .i64 ac]] w fun e w' =>
      e = .returned (Ob.val ⟨kd, false, 0, 0, ⟨#[]⟩, n + 1, 0, lenOf kd nb ni⟩) ∧ ∃ g cap, w'.heap[s]? = some (.cells #[.slice (some ⟨g, 0, none⟩) (n + 1) cap, .int .i64 (n + 1 : Nat), .int .i64 fr, .slice am 0 cm, .int .i64 0, .slice acc 0 cc] 63 (0, 0)) ∧
        w'.ownsRow 0 69 7 (.slice (some ⟨g, 0, none⟩) (n + 1) cap) (n + 1) (xs ++ [.int .i64 (n + 1 : Nat), .int .i64 kd, .slice ab nb cb, .slice ai ni ci, (.slice ap np cp), .int .i64 mo, .int .i64 ac]) ∧ (tv.ownBlock = some g ∨ w.heap.size ≤ g) ∧ g < w'.heap.size ∧ Two s tv w w' := by
  have h1 : w.cell? ⟨s, 1, none⟩ = some (.int .i64 n) := blk_cell hs 1
  have hf1 := blk_free hs 1
  have hlt : s < w.heap.size := (Array.getElem?_eq_some_iff.1 hs).1
  have hsne := own_ne hs hown (by decide)
  have hHne : some w.heap.size ≠ tv.ownBlock := fun e => by have := (hown.lt _ e.symm).2; omega
  have hH1 : some (w.heap.size + 1) ≠ tv.ownBlock := fun e => by have := (hown.lt _ e.symm).2; omega
  have HS := Lib.hid hs
  have HO := Lib.hid hown
  clear hs hown
  go_enter Tryz.func16, Tryz.ntmps16
  go_wp2_with fail
  generalize hW : ((w.setCell ⟨s, 1, none⟩ (.int .i64 ((n : Int) + 1))).alloc (Obj.cells #[.int .i64 ((n : Int) + 1), .int .i64 kd, .slice ab nb cb, .slice ai ni ci, (.slice ap np cp), .int .i64 mo, .int .i64 ac] 69)).alloc (Obj.cells #[.int .i64 0, .bool false, .int .i64 0, .int .i64 0, .string ⟨#[]⟩, .int .i64 0, .int .i64 0, .int .i64 0] 27) = W
  have hsz : W.heap.size = w.heap.size + 2 := by rw [← hW]; simp
  have hWs : W.heap[s]? = some (.cells #[tv, .int .i64 ((n : Int) + 1), .int .i64 fr, .slice am 0 cm, .int .i64 0, .slice acc 0 cc] 63 (0, 0)) := by
    rw [← hW, heap_alloc_old _ _ (by simp; omega), heap_alloc_old _ _ (by simp; omega)]; exact blk_set HS.out 1 _
  have hWt : W.heap[w.heap.size]? = some (.cells #[.int .i64 ((n : Int) + 1), .int .i64 kd, .slice ab nb cb, .slice ai ni ci, (.slice ap np cp), .int .i64 mo, .int .i64 ac] 69 (0, 0)) := by
    rw [← hW, heap_alloc_old _ _ (by simp)]
    exact alloc_at (by simp)
  have hWo : W.heap[w.heap.size + 1]? = some (.cells zeroOb 27 (0, 0)) := by
    rw [← hW]
    exact alloc_at (by simp)
  have hWb : ∀ k, k < w.heap.size → k ≠ s → W.heap[k]? = w.heap[k]? := fun k hk hks => by
    rw [← hW, heap_alloc_old _ _ (by simp; omega), heap_alloc_old _ _ (by simp; omega), blk_far hks]
  have hWO : W.ownsRow 0 69 7 tv n xs := owns_same HO.out (fun k hk => hWb k (owns_lt HO.out hk) (fun e => hsne (by rw [← e]; exact hk.symm)))
  have hWe : W.os = w.os ∧ W.tape = w.tape ∧ W.output = w.output := by rw [← hW]; exact ⟨rfl, rfl, rfl⟩
  clear hW
  have c0 : W.cell? ⟨s, 0, none⟩ = some tv := blk_cell hWs 0
  have f0 := blk_free hWs 0
  have t0 : W.cell? ⟨w.heap.size, 0, none⟩ = some (.int .i64 ((n : Int) + 1)) := blk_cell hWt 0
  have t1 : W.cell? ⟨w.heap.size, 1, none⟩ = some (.int .i64 kd) := blk_cell hWt 1
  have t2 : W.cell? ⟨w.heap.size, 2, none⟩ = some (.slice ab nb cb) := blk_cell hWt 2
  have t3 : W.cell? ⟨w.heap.size, 3, none⟩ = some (.slice ai ni ci) := blk_cell hWt 3
  have t4 : W.cell? ⟨w.heap.size, 4, none⟩ = some (.slice ap np cp) := blk_cell hWt 4
  have t5 : W.cell? ⟨w.heap.size, 5, none⟩ = some (.int .i64 mo) := blk_cell hWt 5
  have t6 : W.cell? ⟨w.heap.size, 6, none⟩ = some (.int .i64 ac) := blk_cell hWt 6
  have HWs := Lib.hid hWs
  have HWt := Lib.hid hWt
  have HWo := Lib.hid hWo
  have HWb := Lib.hid hWb
  have HWO := Lib.hid hWO
  have HWe := Lib.hid hWe
  obtain ⟨i0, hi, hz0, hz1, hz2⟩ := info_parts thing_info
  have HI := Lib.hid (And.intro hi (And.intro hz0 (And.intro hz1 hz2)))
  clear hWs hWt hWo hWb hWO hWe hi hz0 hz1 hz2 h1 hf1
  have hlt2 : s < w.heap.size + 2 := by omega
  go_cut [24] (fun _ wx => Mid w s n (n + 1) tv fr am acc cm cc xs [.int .i64 ((n : Int) + 1), .int .i64 kd, .slice ab nb cb, .slice ai ni ci, .slice ap np cp, .int .i64 mo, .int .i64 ac] #[.int .i64 ((n : Int) + 1), .int .i64 kd, .slice ab nb cb, .slice ai ni ci, .slice ap np cp, .int .i64 mo, .int .i64 ac] zeroOb wx)
  case first =>
   go_region_law
    ((refine step_append_lies _ (by rfl) _ _ _ (by rfl) 0 69 i0 _ 7 104 Tryz.underlying59 HI.out.1 HI.out.2.1 HI.out.2.2.1 HI.out.2.2.2 rfl (by omega) tv n xs (by rfl) ((HWO.out.alloc _).drew)
        ⟨w.heap.size + 2, 0, none⟩ 1 1 [.int .i64 ((n : Int) + 1), .int .i64 kd, .slice ab nb cb, .slice ai ni ci, (.slice ap np cp), .int .i64 mo, .int .i64 ac] (by rfl) (by rfl) (World.news_of_block (cs := #[.int .i64 ((n : Int) + 1), .int .i64 kd, .slice ab nb cb, .slice ai ni ci, (.slice ap np cp), .int .i64 mo, .int .i64 ac]) (t := 69) (fr := (0, 0)) (alloc_at hsz)) (by simp [Value.oneCell'])
        (by omega) (by unfold maxLen; omega) (by omega) (by simp) (w.heap.size + 3) (by simp [hsz]) ?_; intro gg cap w1 hown1 hgrow hat hlt1; have hb0 := (hgrow.block s (by simp [hsz]; omega) hsne).trans ((heap_alloc_old W _ (by omega)).trans HWs.out); have k0 : w1.cell? ⟨s, 0, none⟩ = some tv := blk_cell hb0 0; have kf := blk_free hb0 0))
   all_goals go_wp2_with fail
   all_goals go_meet
   all_goals exact mid_of hlt hsne hHne hH1 hsz HWt.out HWo.out HWb.out HWe.out hown1 hgrow ⟨rfl, rfl, rfl, rfl⟩ hat hlt1 hb0
  case rest =>
  obtain ⟨gg, cap, hs2, hown2, hat2, hlt2, ht2, ho2, htwo⟩ := hcut
  have HS2 := Lib.hid hs2
  have HO2 := Lib.hid hown2
  have HH2 := Lib.hid ho2
  have HT2 := Lib.hid htwo
  have HA2 := Lib.hid (And.intro hat2 hlt2)
  have c0 : wc.cell? ⟨w.heap.size, 0, none⟩ = some (.int .i64 ((n : Int) + 1)) := blk_cell ht2 0
  have c1 : wc.cell? ⟨w.heap.size, 1, none⟩ = some (.int .i64 kd) := blk_cell ht2 1
  have HL := Lib.hid (fun q => length_at (w := wc.drewN q) (g := w.heap.size) (o := 0) (blk_cell ht2 1) (blk_cell ht2 2) (blk_cell ht2 3))
  have d0 : wc.cell? ⟨w.heap.size + 1, 0, none⟩ = some (.int .i64 0) := blk_cell ho2 0
  have d1 : wc.cell? ⟨w.heap.size + 1, 1, none⟩ = some (.bool false) := blk_cell ho2 1
  have d2 : wc.cell? ⟨w.heap.size + 1, 2, none⟩ = some (.int .i64 0) := blk_cell ho2 2
  have d3 : wc.cell? ⟨w.heap.size + 1, 3, none⟩ = some (.int .i64 0) := blk_cell ho2 3
  have d4 : wc.cell? ⟨w.heap.size + 1, 4, none⟩ = some (.string ⟨#[]⟩) := blk_cell ho2 4
  have d5 : wc.cell? ⟨w.heap.size + 1, 5, none⟩ = some (.int .i64 0) := blk_cell ho2 5
  have d6 : wc.cell? ⟨w.heap.size + 1, 6, none⟩ = some (.int .i64 0) := blk_cell ho2 6
  have d7 : wc.cell? ⟨w.heap.size + 1, 7, none⟩ = some (.int .i64 0) := blk_cell ho2 7
  have df : ∀ o, wc.frozen? ⟨w.heap.size + 1, o, none⟩ = false := blk_free ho2
  clear hs2 hown2 ho2 ht2 htwo hat2 hlt2 t0 t1 t2 t3 t4 t5 t6 f0 HWs HWt HWo HWb HWO HWe HI hsz
  go_wp2_with fail
  go_cut [31] (fun _ wx => Put8 (wc.drewN 1) (w.heap.size + 1) 27 (.int .i64 kd) (.bool false) (.int .i64 0) (.int .i64 0) (.string ⟨#[]⟩) (.int .i64 ((n : Int) + 1)) (.int .i64 0) (.int .i64 (lenOf kd nb ni)) wx)
  case first =>
    go_region_with (first | (go_at_call 33; refine (HL.out 1).mono ?_; rintro e w2 ⟨rfl, rfl⟩))
    all_goals (go_wp2_with fail; go_meet; with_reducible exact put8 HH2.out _ _ _ _ _ _ _ _)
  case rest =>
  go_wp2_with fail
  refine bodyPost_ret (results_ob1 Tryz.results16 _ _ (w.heap.size + 1) rfl hcut.blk) rfl ⟨rfl, ?_⟩
  exact hold_end hlt HS2.out HO2.out HA2.out HT2.out (own_other HO2.out HH2.out) (fun k hk => hcut.far k hk) hcut.size ⟨hcut.os, hcut.tape, hcut.output⟩
end Go.Proofs.YtfilbfenpdaahaaGreatDoor
namespace Go.Proofs.YtfilbfenpdaahaaGreatDoor
open Go.RowKit
open St
theorem made_flat (z : List Value) (m : Nat) (hz : z.length = m) (hm : 0 < m) : ∀ n : Nat, (List.range (n * m)).map (fun j => z.toArray[j % z.toArray.size]!) = (List.replicate n z).flatten
  | 0 => by simp
  | n + 1 => by
    rw [List.replicate_succ', List.flatten_append, ← made_flat z m hz hm n, Nat.add_mul, Nat.one_mul, List.range_add, List.map_append]
    congr 1
    simp only [List.map_map, List.flatten_cons, List.flatten_nil, List.append_nil]
    apply List.ext_getElem
    · simp [hz]
    · intro i h1 h2
      simp at h1
      simp [hz, Nat.mod_eq_of_lt h1, List.getElem?_eq_getElem h2]
theorem made_list (z : List Value) (m : Nat) (hz : z.length = m) (hm : 0 < m) (n : Nat) : (madeCells z.toArray (n * m)).toList = (List.replicate n z).flatten := by
  rw [← made_flat z m hz hm n]; simp [madeCells]
theorem u8_info : (Tryz.prog.info? 5).map (fun i => (i.zero, i.size, i.bytes)) = some (some (.int .u8 0), 1, 1) := by kernel_rfl
theorem slot_info : (Tryz.prog.info? 110).map (fun i => (i.zero, i.size, i.bytes)) = some (some (.agg #[.int .i64 0, .bool false, .int .i64 0, .int .i64 0, .string ⟨#[]⟩, .int .i64 0, .int .i64 0, .int .i64 0, .int .i64 0]), 9, 80) := by kernel_rfl
def zeros (n : Nat) : Array Value := madeCells #[.int .u8 0] (n * 1)
def nulls (n : Nat) : Array Value := madeCells #[.int .i64 0, .bool false, .int .i64 0, .int .i64 0, .string ⟨#[]⟩, .int .i64 0, .int .i64 0, .int .i64 0, .int .i64 0] (n * 9)
theorem zeros_list (n : Nat) : (zeros n).toList = (List.replicate n (0 : UInt8)).map bv := by
  unfold zeros
  rw [made_list [.int .u8 0] 1 rfl (by decide) n]
  induction n with
  | zero => rfl
  | succ n ih => rw [List.replicate_succ, List.flatten_cons, ih, List.replicate_succ, List.map_cons]; rfl
theorem nulls_list (n : Nat) : (nulls n).toList = (List.replicate n nul).flatMap slotC := by
  unfold nulls
  have e := made_list (slotC nul) 9 rfl (by decide) n
  simp only [slotC, nul] at e
  rw [e]
  clear e
  induction n with
  | zero => rfl
  | succ n ih => rw [List.replicate_succ, List.flatten_cons, ih, List.replicate_succ, List.flatMap_cons]; rfl
theorem make_bytes (n : Nat) (hn : n ≤ 65535) (w : World) : (Instr.makeSlice 35 (.int .i64 n) (.int .i64 n)).run Tryz.prog w = .ok (.slice (some ⟨w.heap.size, 0, none⟩) n n) (w.alloc (.cells (zeros n) 5)) := by
  obtain ⟨i0, hi, hz0, hz1, hz2⟩ := info_parts u8_info
  have h := run_make (P := Tryz.prog) w 35 5 i0 _ Tryz.underlying35 hi hz0 .i64 .i64 n n (by omega) (Int.le_refl _) (by rw [hz2]; omega) (by omega)
  rw [hz1] at h
  simpa [zeros, Value.cells] using h
theorem make_slots (n : Nat) (hn : n ≤ 65535) (w : World) : (Instr.makeSlice 66 (.int .i64 n) (.int .i64 n)).run Tryz.prog w = .ok (.slice (some ⟨w.heap.size, 0, none⟩) n n) (w.alloc (.cells (nulls n) 110)) := by
  obtain ⟨i0, hi, hz0, hz1, hz2⟩ := info_parts slot_info
  have h := run_make (P := Tryz.prog) w 66 110 i0 _ Tryz.underlying66 hi hz0 .i64 .i64 n n (by omega) (Int.le_refl _) (by rw [hz2]; omega) (by omega)
  rw [hz1] at h
  simpa [nulls, Value.cells] using h
/-- bytes that can be read at a slice's address -/
def Src (w : World) (a : Option Addr) (l : List UInt8) : Prop := l = [] ∨ ∃ ad, a = some ad ∧ ∀ j z, l[j]? = some z → w.cell? (ad.add j) = some (bv z)
/-- a copy of bytes into a row g, from o on -/
theorem copy_run {W : World} {a : Option Addr} {c g o dl dc : Nat} {l : List UInt8} {cur : Array Value} (h : Src W a l) (hg : W.heap[g]? = some (.cells cur 5 (0, 0))) (hfit : o + l.length ≤ cur.size) (hd : l.length ≤ dl) :
    ∃ w', (Builtin.copy_ #[35, 35] 3 #[.slice (some ⟨g, o, none⟩) dl dc, .slice a l.length c]).run Tryz.prog W = .ok (.int .i64 l.length) w' ∧
      w'.heap[g]? = some (.cells (cur.toList.take o ++ l.map bv ++ cur.toList.drop (o + l.length)).toArray 5 (0, 0)) ∧ (∀ k, k ≠ g → w'.heap[k]? = W.heap[k]?) ∧ w'.heap.size = W.heap.size ∧ w'.os = W.os ∧ w'.tape = W.tape ∧ w'.output = W.output := by
  have hsz : ((Tryz.prog.info? 5).map (·.size)) = some 1 := by kernel_rfl
  rcases h with rfl | ⟨ad, rfl, hc⟩
  · exact ⟨W, run_copy_none W _ _ _ 5 _ a dl dc 0 c Tryz.underlying35 hsz (by simp), by simpa using hg, fun _ _ => rfl, rfl, rfl, rfl, rfl⟩
  · have hr := run_copy_row (P := Tryz.prog) W 35 35 3 5 g o dl dc ad l.length c cur 5 (l.map bv) Tryz.underlying35 hsz hg (by rw [List.length_map]; exact (Nat.min_eq_left hd).symm) (fun j v hv => by
        rw [List.getElem?_map] at hv
        obtain ⟨z, hz, rfl⟩ := Option.map_eq_some_iff.1 hv
        exact hc j z hz) (by simpa using hfit) (by intro v hv; obtain ⟨z, _, rfl⟩ := List.mem_map.1 hv; rfl)
    rw [List.length_map] at hr
    exact ⟨_, hr, setRow_heap W g _ _ _ _ hg, fun k hk => setRow_other W g k _ hk, by simp [World.setRow], rfl, rfl, rfl⟩
theorem Src.below {w w' : World} {a : Option Addr} {l : List UInt8} (h : Src w a l) (hb : Below w.heap.size w w') : Src w' a l := by
  rcases h with h | ⟨ad, e, hc⟩
  · exact .inl h
  · exact .inr ⟨ad, e, fun j z hz => (hb.cell (World.block_lt_of_cell? w _ (hc j z hz))).trans (hc j z hz)⟩
set_option maxRecDepth 100000 in
theorem clone_at {w : World} {a : Option Addr} {c : Nat} {l : List UInt8} (h : Src w a l) (hl : l.length ≤ 65535) :
    Calls Tryz.prog 22 #[.slice a l.length c] w fun e w' => e = .returned (.slice (some ⟨w.heap.size, 0, none⟩) l.length l.length) ∧ w'.heap[w.heap.size]? = some (.cells (l.map bv).toArray 5 (0, 0)) ∧ Below w.heap.size w w' := by
  have hmk := make_bytes l.length hl
  have hb1 := below1 w (.cells (zeros l.length) 5)
  have hzs : (zeros l.length).size = l.length := by rw [← Array.length_toList, zeros_list]; simp
  obtain ⟨w', hr, hg, hfar, hsz, h1, h2, h3⟩ := copy_run (c := c) (o := 0) (dl := l.length) (dc := l.length) (h.below hb1) (heap_alloc_new w (.cells (zeros l.length) 5)) (by omega) (Nat.le_refl _)
  have hb : Below w.heap.size w w' := hb1.trans ⟨h1, h2, h3, by rw [hsz]; exact Nat.le_refl _, fun k hk => hfar k (by omega)⟩
  have HG := Lib.hid hg
  have HB := Lib.hid hb
  have HL := Lib.hid (And.intro hl hzs)
  clear h hg hb hfar hsz h1 h2 h3 hb1 hl hzs
  go_enter Tryz.func22, Tryz.ntmps22
  go_wp2_with fail
  go_ret
  exact ⟨rfl, by rw [HG.out, List.drop_of_length_le (by have := HL.out.2; simp; omega)]; simp, HB.out⟩
theorem own_of_block {w : World} {B n size : Nat} {e : TypeId} {cs : Array Value} (h : w.heap[B]? = some (.cells cs e (0, 0))) (hn : n ≤ 65535) (hs : cs.size = n * size) : w.ownsRow 0 e size (.slice (some ⟨B, 0, none⟩) n n) n cs.toList :=
  ⟨by simp [hs], .inr ⟨B, n, cs, rfl, Nat.zero_le _, h, Nat.le_refl _, by unfold maxLen; omega, hs, by rw [List.take_of_length_le (by simp [hs])]⟩⟩
/-- the object that tells of the whole of a new thing -/
def newOb (t : Th) (n : Nat) : Ob := ⟨t.kind, false, 0, 0, ⟨#[]⟩, n + 1, 0, t.length⟩
def thV (t : Th) (l : Lay) : Value := .agg #[.int .i64 0, .int .i64 t.kind, l.b, l.i, l.p, .int .i64 t.most, .int .i64 t.acc]
theorem apart_symm {l m : Lay} (h : apartL l m) : apartL m l := fun k => ⟨fun a b => (h k).1 b a, fun a b => (h k).2.1 b a, fun a b => (h k).2.2 b a⟩
theorem getElem?_snoc {G : List (Th × Lay)} {y x : Th × Lay} {i : Nat} (h : (G ++ [y])[i]? = some x) : G[i]? = some x ∨ (i = G.length ∧ x = y) := by
  rcases Nat.lt_or_ge i G.length with hi | hi
  · rw [List.getElem?_append_left hi] at h; exact .inl h
  · rw [List.getElem?_append_right hi] at h
    rcases Nat.eq_or_lt_of_le hi with e | e
    · subst e; simp at h; exact .inr ⟨rfl, h.symm⟩
    · rw [List.getElem?_eq_none (by simp; omega)] at h; cases h
theorem hold_rep {O : Nat → Prop} {w : World} {s : Nat} {fr : Int} {G : List (Th × Lay)} {t : Th} {l : Lay} (h : Rep O w s fr G) (hT : ThR O w t l) (hap : ∀ (i : Nat) (x : Th × Lay), G[i]? = some x → apartL x.2 l) (hfew : G.length + fr + 1 ≤ 1048576) :
    Calls Tryz.prog 16 #[.pointer (some ⟨s, 0, none⟩), thV t l] w fun e w' => e = .returned (newOb t G.length).val ∧ Rep (Up O w w') w' s fr (G ++ [(t, l)]) ∧ Frm O w w' := by
  obtain ⟨tv, am, cm, ac, cc, hb, hown, ho⟩ := h.blk
  obtain ⟨ab, cb, eb⟩ := own_slice hT.rb
  obtain ⟨ai, ci, ei⟩ := own_slice hT.ri
  obtain ⟨ap, cp, ep⟩ := own_slice hT.rp
  have hf0 := h.fr0
  have hc := hold_at (kd := t.kind) (mo := t.most) (ac := t.acc) (ab := ab) (nb := t.bytes.length) (cb := cb) (ai := ai) (ni := t.items.length) (ci := ci) (ap := ap) (np := t.pairs.length) (cp := cp) hb hown (by omega)
  unfold thV
  rw [eb, ei, ep]
  refine hc.mono ?_
  rintro e w' ⟨rfl, g, cap, hs', hown', hat, hlt', htwo⟩
  have hFr : Frm O w w' := ⟨htwo.os, htwo.tape, htwo.output, htwo.size, fun k hk hO => htwo.block k hk (fun e => hO (by rw [e]; exact h.os)) (fun e => hO (ho k e.symm))⟩
  refine ⟨rfl, ?_, hFr⟩
  have keep : ∀ k, k < w.heap.size → (∃ e : TypeId, ∃ c f, w.heap[k]? = some (.cells c e f) ∧ e ≠ 63 ∧ e ≠ 69) → w'.heap[k]? = w.heap[k]? := by
    rintro k hk ⟨e, c, f, hkc, n1, n2⟩
    refine htwo.block k hk (fun e1 => ?_) (own_ne hkc hown n2)
    subst e1
    rw [hb] at hkc; cases hkc; exact n1 rfl
  have keepR : ∀ {n size : Nat} {e : TypeId} {v : Value} {xs : List Value}, w.ownsRow 0 e size v n xs → e ≠ 63 → e ≠ 69 → w'.ownsRow 0 e size v n xs := by
    intro n size e v xs ho n1 n2
    refine owns_same ho (fun k hk => ?_)
    rcases ho.2 with ⟨rfl, _⟩ | ⟨g', cap', cur', rfl, _, hg', _⟩
    · cases hk
    · have : g' = k := by simpa [isB, Value.ownBlock] using hk
      subst this
      exact keep g' (Array.getElem?_eq_some_iff.1 hg').1 ⟨_, _, _, hg', n1, n2⟩
  have keepT : ∀ {t' : Th} {l' : Lay}, ThR O w t' l' → ThR (Up O w w') w' t' l' := fun hr =>
    ⟨keepR hr.rb (by decide) (by decide), keepR hr.ri (by decide) (by decide), keepR hr.rp (by decide) (by decide), fun k hk => .inl (hr.ob k hk), fun k hk => .inl (hr.oi k hk), fun k hk => .inl (hr.op k hk), hr.nb, hr.ni, hr.np, hr.nm⟩
  refine ⟨.inl h.os, fun k ho => by rcases ho with e | e; exact Nat.lt_of_lt_of_le (h.olt k e) hFr.size; exact e.2, ⟨_, am, cm, ac, cc, by rw [List.length_append]; exact hs', ?_, ?_⟩, fun i x hx => ?_, fun i j x y hij hx hy => ?_, hf0, by simp; omega⟩
  · rw [thsC_append, List.length_append]
    simp only [thsC, List.append_nil, Nat.zero_add]
    have := hown'
    rw [← eb, ← ei, ← ep] at this
    exact this
  · intro k hk
    have : g = k := by simpa [isB, Value.ownBlock] using hk
    subst this
    rcases hat with e | e
    · exact .inl (ho g e)
    · exact .inr ⟨e, hlt'⟩
  · rcases getElem?_snoc hx with hx | ⟨_, rfl⟩
    · exact keepT (h.row i x hx)
    · exact keepT hT
  · rcases getElem?_snoc hx with hx | ⟨ei', rfl⟩
    · rcases getElem?_snoc hy with hy | ⟨_, rfl⟩
      · exact h.apart i j x y hij hx hy
      · exact hap i x hx
    · rcases getElem?_snoc hy with hy | ⟨ej, rfl⟩
      · exact apart_symm (hap j y hy)
      · omega
end Go.Proofs.YtfilbfenpdaahaaGreatDoor
namespace Go.Proofs.YtfilbfenpdaahaaGreatDoor
open Go.RowKit
open St
/-- the store at a new block, with nothing in it -/
theorem rep_new (w : World) (c : Int) (h0 : 0 ≤ c) (h1 : c ≤ 1048576) : Rep (fun k => k = w.heap.size) (w.alloc (.cells #[.slice none 0 0, .int .i64 0, .int .i64 c, .slice none 0 0, .int .i64 0, .slice none 0 0] 63)) w.heap.size c [] := by
  refine ⟨rfl, fun k hk => by simp [hk], ⟨.slice none 0 0, none, 0, none, 0, heap_alloc_new w _, World.ownsRow_nil _ _ _ _, fun k hk => by cases hk⟩, fun i x hx => by simp at hx, fun i j x y _ hx => by simp at hx, h0, by simp; omega⟩
theorem new_at (c : Int) (w : World) (h1 : 1 ≤ c) (h2 : c ≤ 1048576) :
    Calls Tryz.prog 6 #[.int .i64 c] w fun e w' => e = .returned (.tuple #[.pointer (some ⟨w.heap.size, 0, none⟩), .int .i64 0]) ∧ Rep (fun k => k = w.heap.size) w' w.heap.size c [] ∧ Below w.heap.size w w' := by
  have HR := Lib.hid (rep_new w c (by omega) h2)
  go_enter Tryz.func6, Tryz.ntmps6
  go_wp2_with fail
  exact bodyPost_ret (v := .tuple #[.pointer (some ⟨w.heap.size, 0, none⟩), .int .i64 0]) (by simp [results, Tryz.results6, go_sem]) rfl ⟨rfl, HR.out, below1 w _⟩
theorem new_no (c : Int) (w : World) (h : c < 1 ∨ 1048576 < c) :
    Calls Tryz.prog 6 #[.int .i64 c] w fun e w' => e = .returned (.tuple #[.pointer none, .int .i64 21]) ∧ w' = w := by
  by_cases h1 : c < 1
  · clear h
    go_enter Tryz.func6, Tryz.ntmps6
    go_wp2_with fail
    exact bodyPost_ret (v := .tuple #[.pointer none, .int .i64 21]) (by simp [results, Tryz.results6, go_sem]) rfl ⟨rfl, rfl⟩
  · have h2 : 1048576 < c := by omega
    clear h
    go_enter Tryz.func6, Tryz.ntmps6
    go_wp2_with fail
    exact bodyPost_ret (v := .tuple #[.pointer none, .int .i64 21]) (by simp [results, Tryz.results6, go_sem]) rfl ⟨rfl, rfl⟩
/-- cells are taken: what is left -/
theorem rep_claim {O : Nat → Prop} {w : World} {s : Nat} {fr fr' : Int} {G : List (Th × Lay)} (h : Rep O w s fr G) (h0 : 0 ≤ fr') (h1 : fr' ≤ fr) : Rep O (w.setCell ⟨s, 2, none⟩ (.int .i64 fr')) s fr' G := by
  obtain ⟨tv, am, cm, ac, cc, hb, ht, ho⟩ := h.blk
  have hk : ∀ {n size : Nat} {e : TypeId} {v : Value} {xs : List Value}, w.ownsRow 0 e size v n xs → 63 ≠ e → (w.setCell ⟨s, 2, none⟩ (.int .i64 fr')).ownsRow 0 e size v n xs := fun hr hne =>
    owns_same hr (fun k hk => blk_far (fun e1 => own_ne hb hr hne (by rw [← e1]; exact hk.symm)) _)
  refine ⟨h.os, fun k ho => by rw [setC_size]; exact h.olt k ho, ⟨tv, am, cm, ac, cc, blk_set hb 2 _, hk ht (by decide), ho⟩, fun i x hx => ?_, h.apart, h0, by have := h.few; omega⟩
  have hr := h.row i x hx
  exact ⟨hk hr.rb (by decide), hk hr.ri (by decide), hk hr.rp (by decide), hr.ob, hr.oi, hr.op, hr.nb, hr.ni, hr.np, hr.nm⟩
/-- what a call that makes a thing leaves: the thing is the last one, or there is none and why -/
def Made (O : Nat → Prop) (w : World) (s : Nat) (fr : Int) (G : List (Th × Lay)) (t : Th) (k n : Int) (e : Ending) (w' : World) : Prop :=
  (clm k n fr ≠ 0 ∧ e = .returned (.tuple #[nul.val, .int .i64 (clm k n fr)]) ∧ Below w.heap.size w w') ∨
  (clm k n fr = 0 ∧ e = .returned (.tuple #[(newOb t G.length).val, .int .i64 0]) ∧ ∃ l, Rep (Up O w w') w' s (fr - cellsI k n) (G ++ [(t, l)]) ∧ Frm O w w')
theorem clm_zero {k n fr : Int} (h : clm k n fr = 0) : 0 ≤ n ∧ n ≤ mostI k ∧ cellsI k n ≤ fr := by
  unfold clm at h
  split at h
  · cases h
  · split at h
    · cases h
    · split at h
      · cases h
      · omega
theorem fresh_apart {O : Nat → Prop} {w : World} {s : Nat} {fr : Int} {G : List (Th × Lay)} {l : Lay} (h : Rep O w s fr G) (hl : ∀ k, isB l.b k ∨ isB l.i k ∨ isB l.p k → w.heap.size ≤ k) (i : Nat) (x : Th × Lay) (hx : G[i]? = some x) : apartL x.2 l := by
  have hr := h.row i x hx
  intro k
  exact ⟨fun a b => by have := hr.lt (.inl a); have := hl k (.inl b); omega, fun a b => by have := hr.lt (.inr (.inl a)); have := hl k (.inr (.inl b)); omega, fun a b => by have := hr.lt (.inr (.inr a)); have := hl k (.inr (.inr b)); omega⟩
theorem claim_rep {O : Nat → Prop} {w : World} {s : Nat} {fr : Int} {G : List (Th × Lay)} (h : Rep O w s fr G) (k n : Int) :
    Calls Tryz.prog 15 #[.pointer (some ⟨s, 0, none⟩), .int .i64 k, .int .i64 n] w fun e w' => e = .returned (.int .i64 (clm k n fr)) ∧ w' = if clm k n fr = 0 then w.setCell ⟨s, 2, none⟩ (.int .i64 (fr - cellsI k n)) else w := by
  obtain ⟨tv, am, cm, ac, cc, ⟨_, _, c2, _⟩, _, hf⟩ := h.cells
  exact claim_at c2 (hf 2) h.fr0 (by have := h.few; omega)
theorem claimed {O : Nat → Prop} {w : World} {s : Nat} {fr k n : Int} {G : List (Th × Lay)} (h : Rep O w s fr G) (hc : clm k n fr = 0) (hm : mostI k ≤ 65535) : Rep O (w.setCell ⟨s, 2, none⟩ (.int .i64 (fr - cellsI k n))) s (fr - cellsI k n) G ∧ (G.length : Int) + (fr - cellsI k n) + 1 ≤ 1048576 := by
  obtain ⟨h0, h1, h2⟩ := clm_zero hc
  obtain ⟨m, rfl⟩ : ∃ m : Nat, n = m := ⟨n.toNat, by omega⟩
  have hb := cellsI_bounds (k := k) (n := m) (by omega)
  exact ⟨rep_claim h (by omega) (by omega), by have := h.few; omega⟩
theorem frm_set {O : Nat → Prop} {w w' : World} {s : Nat} {v : Value} (hs : O s) (h : Frm O (w.setCell ⟨s, 2, none⟩ v) w') : Frm O w w' :=
  ⟨h.os, h.tape, h.output, by have := h.size; rwa [setC_size] at this, fun k hk hO => (h.block k (by rwa [setC_size]) hO).trans (blk_far (fun e => hO (by rw [e]; exact hs)) _)⟩
/-- behind a claim, with the result's box made ahead of it -/
def afterC (w : World) (s : Nat) (v : Int) : World := (w.alloc (.cells zeroOb 27)).setCell ⟨s, 2, none⟩ (.int .i64 v)
theorem afterC_size (w : World) (s : Nat) (v : Int) : (afterC w s v).heap.size = w.heap.size + 1 := by unfold afterC; rw [setC_size]; simp
/-- a thing whose rows are new is held: and where the result's box is written behind it, the store has it -/
theorem ready_call {O : Nat → Prop} {w w3 : World} {s : Nat} {fr k n : Int} {G : List (Th × Lay)} {t : Th} {l : Lay} (h : Rep O w s fr G) (hc : clm k n fr = 0) (hm : mostI k ≤ 65535) (h23 : Below (w.heap.size + 1) (afterC w s (fr - cellsI k n)) w3)
    (hT : ThR (fun k => w.heap.size + 1 ≤ k ∧ k < w3.heap.size) w3 t l) :
    Calls Tryz.prog 16 #[.pointer (some ⟨s, 0, none⟩), thV t l] w3 fun e w4 => e = .returned (newOb t G.length).val ∧ w4.heap[w.heap.size]? = some (.cells zeroOb 27 (0, 0)) ∧
      ∀ v0 v1 v2 v3 v4 v5 v6 v7 w5, Put8 w4 w.heap.size 27 v0 v1 v2 v3 v4 v5 v6 v7 w5 → ∃ l, Rep (Up O w w5) w5 s (fr - cellsI k n) (G ++ [(t, l)]) ∧ Frm O w w5 := by
  have hR0 := h.below (below1 w (.cells zeroOb 27))
  obtain ⟨hR1, hfew⟩ := claimed hR0 hc hm
  have hs2 := afterC_size w s (fr - cellsI k n)
  have hsl : s < w.heap.size := h.lt
  have h3s : w.heap.size + 1 ≤ w3.heap.size := by have := h23.size; omega
  have hR3 : Rep O w3 s (fr - cellsI k n) G := by
    refine hR1.below ?_
    have : (w.alloc (.cells zeroOb 27)).setCell ⟨s, 2, none⟩ (.int .i64 (fr - cellsI k n)) = afterC w s (fr - cellsI k n) := rfl
    rw [this, hs2]; exact h23
  have hR3' := hR3.mono (O' := fun k => O k ∨ (w.heap.size + 1 ≤ k ∧ k < w3.heap.size)) (fun _ _ e => .inl e) (fun k e => by rcases e with e | e; exact hR3.olt k e; exact e.2)
  have hB3 : w3.heap[w.heap.size]? = some (.cells zeroOb 27 (0, 0)) := by
    rw [h23.block _ (by omega)]
    unfold afterC
    rw [blk_far (by omega)]
    exact heap_alloc_new w _
  have hF3 : ∀ k, k < w.heap.size → ¬ O k → w3.heap[k]? = w.heap[k]? := fun k hk hO => by
    rw [h23.block k (by omega)]
    unfold afterC
    rw [blk_far (fun e => hO (by rw [e]; exact h.os)), heap_alloc_old _ _ hk]
  refine (hold_rep hR3' (hT.mono (fun k _ e => .inr e)) (fun i x hx => ?_) (by omega)).mono ?_
  · have hr := (h.row i x hx)
    intro q
    exact ⟨fun a b => by have := hr.lt (.inl a); have := hT.ob q b; omega, fun a b => by have := hr.lt (.inr (.inl a)); have := hT.oi q b; omega, fun a b => by have := hr.lt (.inr (.inr a)); have := hT.op q b; omega⟩
  · rintro e w4 ⟨rfl, hR4, hF4⟩
    have hBO : ¬ (O w.heap.size ∨ (w.heap.size + 1 ≤ w.heap.size ∧ w.heap.size < w3.heap.size)) := by
      rintro (e | e)
      · have := h.olt _ e; omega
      · omega
    refine ⟨rfl, (hF4.block _ (by omega) hBO).trans hB3, fun v0 v1 v2 v3 v4 v5 v6 v7 w5 hp => ⟨l, ?_, ?_⟩⟩
    · refine (hR4.same (by rw [hp.size]; exact Nat.le_refl _) (fun k _ hk => hp.far k (fun e => ?_))).mono (fun k _ hk => ?_) (fun k hk => ?_)
      · subst e
        rcases hk with e | e
        · exact hBO e
        · omega
      · rcases hk with (e | e) | e
        · exact .inl e
        · exact .inr ⟨by omega, by rw [hp.size]; have := hF4.size; omega⟩
        · exact .inr ⟨by omega, by rw [hp.size]; exact e.2⟩
      · rcases hk with e | e
        · have := h.olt k e; rw [hp.size]; have := hF4.size; omega
        · exact e.2
    · refine ⟨hp.os.trans (hF4.os.trans h23.os), hp.tape.trans (hF4.tape.trans h23.tape), hp.output.trans (hF4.output.trans h23.output), by rw [hp.size]; have := hF4.size; omega, fun k hk hO => ?_⟩
      rw [hp.far k (by omega), hF4.block k (by omega) (by rintro (e | e); exact hO e; omega), hF3 k hk hO]
end Go.Proofs.YtfilbfenpdaahaaGreatDoor
namespace Go.Proofs.YtfilbfenpdaahaaGreatDoor
open Go.RowKit
open St
theorem Rep.vw {O : Nat → Prop} {w : World} {s : Nat} {fr : Int} {G : List (Th × Lay)} (h : Rep O w s fr G) : ∃ tv, Vw w s tv G := by
  obtain ⟨tv, am, cm, ac, cc, ⟨c0, _⟩, hr, _⟩ := h.cells
  refine ⟨tv, c0, by have := h.few; have := h.fr0; omega, ?_⟩
  rcases hr with e | ⟨g, cap, e, hg, _, _, hc⟩
  · exact .inl e
  · exact .inr ⟨g, cap, e, hg, hc⟩
theorem told_rep {O : Nat → Prop} {w : World} {s : Nat} {fr : Int} {G : List (Th × Lay)} (h : Rep O w s fr G) {tv : Value} (hv : Vw w s tv G) (o : Ob) (k : Int) :
    Calls Tryz.prog 21 #[.pointer (some ⟨s, 0, none⟩), o.val, .int .i64 k] w fun e w' => e = .returned (thP tv (tld G o k)) ∧ Below w.heap.size w w' := told_at hv (Rep.slc h) o k
/-- is o valid? -/
def valid (G : List (Th × Lay)) (o : Ob) : Bool := if o.kind = 6 ∨ o.kind = 7 ∨ o.kind = 8 then (tld G o o.kind).isSome else true
theorem below_z {w w3 : World} {a b : Obj} (h : Below ((w.alloc a).alloc b).heap.size ((w.alloc a).alloc b) w3) : w3.heap[w.heap.size]? = some a ∧ w3.heap[w.heap.size + 1]? = some b := by
  constructor
  · rw [h.block _ (by simp; omega), heap_alloc_old _ _ (by simp)]; exact heap_alloc_new w a
  · rw [h.block _ (by simp)]; exact alloc_at (by simp)
theorem below_box {w : World} {o : Ob} {w1 : World} (h : Below (w.alloc (obC o)).heap.size (w.alloc (obC o)) w1) : Below w.heap.size w w1 := bthen (below1 w _) h
theorem box_at {w w1 : World} {o : Ob} (h : Below (w.alloc (obC o)).heap.size (w.alloc (obC o)) w1) : w1.heap[w.heap.size]? = some (obC o) := (h.block _ (by simp)).trans (heap_alloc_new w _)
theorem valid_at {O : Nat → Prop} {w : World} {s : Nat} {fr : Int} {G : List (Th × Lay)} (h : Rep O w s fr G) (o : Ob) :
    Calls Tryz.prog 18 #[.pointer (some ⟨s, 0, none⟩), o.val] w fun e w' => e = .returned (.bool (valid G o)) ∧ Below w.heap.size w w' := by
  have h1 := h.below (below1 w (obC o))
  obtain ⟨tv, hv⟩ := Rep.vw h1
  have HT := Lib.hid (told_rep h1 hv o o.kind)
  unfold obC Ob.val at HT
  unfold Ob.val
  have hvd : valid G o = if o.kind = 6 ∨ o.kind = 7 ∨ o.kind = 8 then (tld G o o.kind).isSome else true := rfl
  by_cases hk : o.kind = 6 ∨ o.kind = 7 ∨ o.kind = 8
  · rw [if_pos hk] at hvd
    rw [hvd]
    cases ht : tld G o o.kind with
    | none =>
      rw [ht] at HT
      simp only [thP, Option.map_none] at HT
      clear h1 hv hvd ht h
      obtain ⟨kd, ex, ac, n, nm, rf, fm, ln⟩ := o
      simp only at hk HT
      rcases hk with rfl | rfl | rfl
      · go_enter Tryz.func18, Tryz.ntmps18
        go_wp2_with fail
        refine HT.out.mono ?_; rintro e w1 ⟨rfl, hb⟩
        have HB := Lib.hid (bthen (below1 w _) hb)
        clear hb
        go_wp2_with fail
        go_ret
        exact ⟨rfl, HB.out⟩
      · go_enter Tryz.func18, Tryz.ntmps18
        go_wp2_with fail
        refine HT.out.mono ?_; rintro e w1 ⟨rfl, hb⟩
        have HB := Lib.hid (bthen (below1 w _) hb)
        clear hb
        go_wp2_with fail
        go_ret
        exact ⟨rfl, HB.out⟩
      · go_enter Tryz.func18, Tryz.ntmps18
        go_wp2_with fail
        refine HT.out.mono ?_; rintro e w1 ⟨rfl, hb⟩
        have HB := Lib.hid (bthen (below1 w _) hb)
        clear hb
        go_wp2_with fail
        go_ret
        exact ⟨rfl, HB.out⟩
    | some i =>
      rw [ht] at HT
      simp only [thP, Option.map_some] at HT
      clear h1 hv hvd ht h
      obtain ⟨kd, ex, ac, n, nm, rf, fm, ln⟩ := o
      simp only at hk HT
      rcases hk with rfl | rfl | rfl
      · go_enter Tryz.func18, Tryz.ntmps18
        go_wp2_with fail
        refine HT.out.mono ?_; rintro e w1 ⟨rfl, hb⟩
        have HB := Lib.hid (bthen (below1 w _) hb)
        clear hb
        go_wp2_with fail
        go_ret
        exact ⟨rfl, HB.out⟩
      · go_enter Tryz.func18, Tryz.ntmps18
        go_wp2_with fail
        refine HT.out.mono ?_; rintro e w1 ⟨rfl, hb⟩
        have HB := Lib.hid (bthen (below1 w _) hb)
        clear hb
        go_wp2_with fail
        go_ret
        exact ⟨rfl, HB.out⟩
      · go_enter Tryz.func18, Tryz.ntmps18
        go_wp2_with fail
        refine HT.out.mono ?_; rintro e w1 ⟨rfl, hb⟩
        have HB := Lib.hid (bthen (below1 w _) hb)
        clear hb
        go_wp2_with fail
        go_ret
        exact ⟨rfl, HB.out⟩
  · rw [if_neg hk] at hvd
    rw [hvd]
    have e6 : (o.kind == 6) = false := by simp; omega
    have e7 : (o.kind == 7) = false := by simp; omega
    have e8 : (o.kind == 8) = false := by simp; omega
    clear hk hvd h1 hv HT h
    go_enter Tryz.func18, Tryz.ntmps18
    go_wp2_with fail
    go_ret
    exact ⟨rfl, below1 _ _⟩
theorem last_at {O : Nat → Prop} {w : World} {s : Nat} {fr : Int} {G : List (Th × Lay)} (h : Rep O w s fr G) :
    Calls Tryz.prog 67 #[.pointer (some ⟨s, 0, none⟩)] w fun e w' => e = .returned (.agg #[.int .i64 0, .int .i64 0, .int .i64 0, .int .i64 0]) ∧ Below w.heap.size w w' := by
  obtain ⟨tv, am, cm, ac, cc, ⟨_, _, _, c3, _⟩, _⟩ := h.cells
  have hlt := h.lt
  clear h
  go_enter Tryz.func67, Tryz.ntmps67
  go_wp2_with fail
  refine bodyPost_ret (v := .agg #[.int .i64 0, .int .i64 0, .int .i64 0, .int .i64 0]) (by simp [results, Tryz.results67, go_sem]) rfl ⟨rfl, below1 w _⟩
/-- the part of o's part -/
def prt (o : Ob) (f n : Int) : Ob := ⟨o.kind, o.exec, o.acc, o.n, o.name, o.ref, o.frm + f, n⟩
theorem liesB_iff {f n L : Int} : liesB f n L = true ↔ 0 ≤ f ∧ 0 ≤ n ∧ f ≤ L ∧ n ≤ L - f := by unfold liesB; simp
end Go.Proofs.YtfilbfenpdaahaaGreatDoor
namespace Go.Proofs.YtfilbfenpdaahaaGreatDoor
open Go.RowKit
open St
theorem nulls_size (m : Nat) : (nulls m).size = m * 9 := by
  rw [← Array.length_toList, nulls_list]
  induction m with
  | zero => rfl
  | succ m ih => rw [List.replicate_succ, List.flatMap_cons, List.length_append, ih]; simp [slotC]; omega
theorem zeros_size (m : Nat) : (zeros m).size = m := by rw [← Array.length_toList, zeros_list]; simp
theorem no_own {k : Nat} {O : Nat → Prop} (h : isB (.slice none 0 0) k) : O k := by cases h
theorem the_own {O : Nat → Prop} {B n c : Nat} (hO : O B) (k : Nat) (h : isB (.slice (some ⟨B, 0, none⟩) n c) k) : O k := by
  have : B = k := by simpa [isB, Value.ownBlock] using h
  exact this ▸ hO
theorem row_slots {O : Nat → Prop} {w : World} {B m : Nat} (h : w.heap[B]? = some (.cells (nulls m) 110 (0, 0))) (hm : m ≤ 65535) (hO : O B) : ThR O w ⟨7, [], List.replicate m nul, [], 0, 0⟩ ⟨.slice none 0 0, .slice (some ⟨B, 0, none⟩) m m, .slice none 0 0⟩ := by
  have hr := own_of_block (size := 9) h hm (nulls_size m)
  rw [nulls_list] at hr
  exact ⟨World.ownsRow_nil _ _ _ _, by simpa using hr, World.ownsRow_nil _ _ _ _, fun k hk => no_own hk, the_own hO, fun k hk => no_own hk, by simp, by simpa using hm, by simp, by simp⟩
theorem row_bytes {O : Nat → Prop} {w : World} {B : Nat} {b : List UInt8} (h : w.heap[B]? = some (.cells (b.map bv).toArray 5 (0, 0))) (hm : b.length ≤ 65535) (hO : O B) : ThR O w ⟨6, b, [], [], 0, 0⟩ ⟨.slice (some ⟨B, 0, none⟩) b.length b.length, .slice none 0 0, .slice none 0 0⟩ := by
  have hr := own_of_block (size := 1) h hm (by simp)
  exact ⟨by simpa using hr, World.ownsRow_nil _ _ _ _, World.ownsRow_nil _ _ _ _, the_own hO, fun k hk => no_own hk, fun k hk => no_own hk, hm, by simp, by simp, by simp⟩
theorem row_dict (O : Nat → Prop) (w : World) (n : Int) (h0 : 0 ≤ n) (h1 : n ≤ 4096) : ThR O w ⟨8, [], [], [], n, 0⟩ ⟨.slice none 0 0, .slice none 0 0, .slice none 0 0⟩ :=
  ⟨World.ownsRow_nil _ _ _ _, World.ownsRow_nil _ _ _ _, World.ownsRow_nil _ _ _ _, fun k hk => no_own hk, fun k hk => no_own hk, fun k hk => no_own hk, by simp, by simp, by simp, by simpa using ⟨h0, h1⟩⟩
theorem claim_ok {O : Nat → Prop} {w : World} {s : Nat} {fr k n : Int} {G : List (Th × Lay)} (h : Rep O w s fr G) (hc : clm k n fr = 0) :
    Calls Tryz.prog 15 #[.pointer (some ⟨s, 0, none⟩), .int .i64 k, .int .i64 n] (w.alloc (.cells #[.int .i64 0, .bool false, .int .i64 0, .int .i64 0, .string ⟨#[]⟩, .int .i64 0, .int .i64 0, .int .i64 0] 27)) fun e w' => e = .returned (.int .i64 0) ∧ w' = afterC w s (fr - cellsI k n) := by
  have hR0 := h.below (below1 w (.cells zeroOb 27))
  have := claim_rep hR0 k n
  rw [hc, if_pos rfl] at this
  exact this
theorem claim_not {O : Nat → Prop} {w : World} {s : Nat} {fr k n : Int} {G : List (Th × Lay)} (h : Rep O w s fr G) (hc : clm k n fr ≠ 0) :
    Calls Tryz.prog 15 #[.pointer (some ⟨s, 0, none⟩), .int .i64 k, .int .i64 n] (w.alloc (.cells #[.int .i64 0, .bool false, .int .i64 0, .int .i64 0, .string ⟨#[]⟩, .int .i64 0, .int .i64 0, .int .i64 0] 27)) fun e w' => e = .returned (.int .i64 (clm k n fr)) ∧ w' = w.alloc (.cells #[.int .i64 0, .bool false, .int .i64 0, .int .i64 0, .string ⟨#[]⟩, .int .i64 0, .int .i64 0, .int .i64 0] 27) := by
  have hR0 := h.below (below1 w (.cells zeroOb 27))
  have := claim_rep hR0 k n
  rw [if_neg hc] at this
  exact this
theorem box_cells {w : World} {B : Nat} (h : w.heap[B]? = some (.cells zeroOb 27 (0, 0))) : w.cell? ⟨B, 0, none⟩ = some (.int .i64 0) ∧ w.cell? ⟨B, 1, none⟩ = some (.bool false) ∧ w.cell? ⟨B, 2, none⟩ = some (.int .i64 0) ∧ w.cell? ⟨B, 3, none⟩ = some (.int .i64 0) ∧ w.cell? ⟨B, 4, none⟩ = some (.string ⟨#[]⟩) ∧ w.cell? ⟨B, 5, none⟩ = some (.int .i64 0) ∧ w.cell? ⟨B, 6, none⟩ = some (.int .i64 0) ∧ w.cell? ⟨B, 7, none⟩ = some (.int .i64 0) ∧ ∀ o, w.frozen? ⟨B, o, none⟩ = false :=
  ⟨blk_cell h 0, blk_cell h 1, blk_cell h 2, blk_cell h 3, blk_cell h 4, blk_cell h 5, blk_cell h 6, blk_cell h 7, blk_free h⟩
theorem row_zeros {O : Nat → Prop} {w : World} {B m : Nat} (h : w.heap[B]? = some (.cells (zeros m) 5 (0, 0))) (hm : m ≤ 65535) (hO : O B) : ThR O w ⟨6, List.replicate m 0, [], [], 0, 0⟩ ⟨.slice (some ⟨B, 0, none⟩) m m, .slice none 0 0, .slice none 0 0⟩ := by
  have hz : (zeros m) = ((List.replicate m (0 : UInt8)).map bv).toArray := by rw [← zeros_list]
  rw [hz] at h
  have := row_bytes h (by simpa using hm) hO
  simpa using this
set_option maxRecDepth 100000 in
set_option maxHeartbeats 2000000 in
theorem array_at {O : Nat → Prop} {w : World} {s : Nat} {fr : Int} {G : List (Th × Lay)} (h : Rep O w s fr G) (n : Int) :
    Calls Tryz.prog 25 #[.pointer (some ⟨s, 0, none⟩), .int .i64 n] w (Made O w s fr G ⟨7, [], List.replicate n.toNat nul, [], 0, 0⟩ 7 n) := by
  by_cases hc : clm 7 n fr = 0
  · obtain ⟨m, rfl⟩ : ∃ m : Nat, n = m := ⟨n.toNat, by have := clm_zero hc; omega⟩
    have hm : m ≤ 65535 := by have := (clm_zero hc).2.1; unfold mostI at this; simp at this; omega
    have HC := Lib.hid (claim_ok h hc)
    have HM := Lib.hid (show ∀ e w', (e = Ending.returned (.tuple #[(newOb ⟨7, [], List.replicate m nul, [], 0, 0⟩ G.length).val, .int .i64 0]) ∧ ∃ l, Rep (Up O w w') w' s (fr - cellsI 7 m) (G ++ [(⟨7, [], List.replicate m nul, [], 0, 0⟩, l)]) ∧ Frm O w w') → Made O w s fr G ⟨7, [], List.replicate (m : Int).toNat nul, [], 0, 0⟩ 7 m e w' from fun e w' hh => .inr ⟨hc, by simpa using hh⟩)
    have hs2 := afterC_size w s (fr - cellsI 7 m)
    have hRC := ready_call (t := ⟨7, [], List.replicate m nul, [], 0, 0⟩) (l := ⟨.slice none 0 0, .slice (some ⟨w.heap.size + 1, 0, none⟩) m m, .slice none 0 0⟩) (w3 := (afterC w s (fr - cellsI 7 m)).alloc (.cells (nulls m) 110)) h hc (by decide) (by have := below1 (afterC w s (fr - cellsI 7 m)) (.cells (nulls m) 110); rw [hs2] at this; exact this) (row_slots (alloc_at hs2) hm ⟨Nat.le_refl _, by simp [hs2]⟩)
    unfold thV at hRC
    have HR := Lib.hid hRC
    have hmk := make_slots m hm
    clear hc hRC h
    go_enter Tryz.func25, Tryz.ntmps25
    go_wp2_with fail
    refine HC.out.mono ?_; rintro e w2 ⟨rfl, rfl⟩
    go_wp2_with fail
    refine HR.out.mono ?_; rintro e w4 ⟨rfl, hB, hfin⟩
    obtain ⟨d0, d1, d2, d3, d4, d5, d6, d7, df⟩ := box_cells hB
    have HB := Lib.hid hB
    have HF := Lib.hid hfin
    clear hB hfin hmk
    simp only [newOb, Ob.val]
    go_wp2_with fail
    have hp := put8 HB.out (.int .i64 7) (.bool false) (.int .i64 0) (.int .i64 0) (.string ⟨#[]⟩) (.int .i64 ((G.length : Int) + 1)) (.int .i64 0) (.int .i64 (Th.length ⟨7, [], List.replicate m nul, [], 0, 0⟩))
    exact bodyPost_ret (results_ob2 Tryz.results25 _ _ w.heap.size rfl rfl hp.blk) rfl (HM.out _ _ ⟨rfl, HF.out _ _ _ _ _ _ _ _ _ hp⟩)
  · have hcn : (clm 7 n fr != 0) = true := by simp [hc]
    have HC := Lib.hid (claim_not h hc)
    have HM := Lib.hid (show ∀ e w', (e = Ending.returned (.tuple #[nul.val, .int .i64 (clm 7 n fr)]) ∧ Below w.heap.size w w') → Made O w s fr G ⟨7, [], List.replicate n.toNat nul, [], 0, 0⟩ 7 n e w' from fun e w' hh => .inl ⟨hc, hh⟩)
    clear hc h
    go_enter Tryz.func25, Tryz.ntmps25
    go_wp2_with fail
    refine HC.out.mono ?_; rintro e w2 ⟨rfl, rfl⟩
    go_wp2_with fail
    exact bodyPost_ret (results_ob2 Tryz.results25 _ _ w.heap.size rfl rfl (heap_alloc_new w _)) rfl (HM.out _ _ ⟨rfl, below1 w _⟩)
set_option maxRecDepth 100000 in
set_option maxHeartbeats 2000000 in
theorem string_at {O : Nat → Prop} {w : World} {s : Nat} {fr : Int} {G : List (Th × Lay)} (h : Rep O w s fr G) (n : Int) :
    Calls Tryz.prog 7 #[.pointer (some ⟨s, 0, none⟩), .int .i64 n] w (Made O w s fr G ⟨6, List.replicate n.toNat 0, [], [], 0, 0⟩ 6 n) := by
  by_cases hc : clm 6 n fr = 0
  · obtain ⟨m, rfl⟩ : ∃ m : Nat, n = m := ⟨n.toNat, by have := clm_zero hc; omega⟩
    have hm : m ≤ 65535 := by have := (clm_zero hc).2.1; unfold mostI at this; simp at this; omega
    have HC := Lib.hid (claim_ok h hc)
    have HM := Lib.hid (show ∀ e w', (e = Ending.returned (.tuple #[(newOb ⟨6, List.replicate m 0, [], [], 0, 0⟩ G.length).val, .int .i64 0]) ∧ ∃ l, Rep (Up O w w') w' s (fr - cellsI 6 m) (G ++ [(⟨6, List.replicate m 0, [], [], 0, 0⟩, l)]) ∧ Frm O w w') → Made O w s fr G ⟨6, List.replicate (m : Int).toNat 0, [], [], 0, 0⟩ 6 m e w' from fun e w' hh => .inr ⟨hc, by simpa using hh⟩)
    have hs2 := afterC_size w s (fr - cellsI 6 m)
    have hRC := ready_call (t := ⟨6, List.replicate m 0, [], [], 0, 0⟩) (l := ⟨.slice (some ⟨w.heap.size + 1, 0, none⟩) m m, .slice none 0 0, .slice none 0 0⟩) (w3 := (afterC w s (fr - cellsI 6 m)).alloc (.cells (zeros m) 5)) h hc (by decide) (by have := below1 (afterC w s (fr - cellsI 6 m)) (.cells (zeros m) 5); rw [hs2] at this; exact this) (row_zeros (alloc_at hs2) hm ⟨Nat.le_refl _, by simp [hs2]⟩)
    unfold thV at hRC
    have HR := Lib.hid hRC
    have hmk := make_bytes m hm
    clear hc hRC h
    go_enter Tryz.func7, Tryz.ntmps7
    go_wp2_with fail
    refine HC.out.mono ?_; rintro e w2 ⟨rfl, rfl⟩
    go_wp2_with fail
    refine HR.out.mono ?_; rintro e w4 ⟨rfl, hB, hfin⟩
    obtain ⟨d0, d1, d2, d3, d4, d5, d6, d7, df⟩ := box_cells hB
    have HB := Lib.hid hB
    have HF := Lib.hid hfin
    clear hB hfin hmk
    simp only [newOb, Ob.val]
    go_wp2_with fail
    have hp := put8 HB.out (.int .i64 6) (.bool false) (.int .i64 0) (.int .i64 0) (.string ⟨#[]⟩) (.int .i64 ((G.length : Int) + 1)) (.int .i64 0) (.int .i64 (Th.length ⟨6, List.replicate m 0, [], [], 0, 0⟩))
    exact bodyPost_ret (results_ob2 Tryz.results7 _ _ w.heap.size rfl rfl hp.blk) rfl (HM.out _ _ ⟨rfl, HF.out _ _ _ _ _ _ _ _ _ hp⟩)
  · have hcn : (clm 6 n fr != 0) = true := by simp [hc]
    have HC := Lib.hid (claim_not h hc)
    have HM := Lib.hid (show ∀ e w', (e = Ending.returned (.tuple #[nul.val, .int .i64 (clm 6 n fr)]) ∧ Below w.heap.size w w') → Made O w s fr G ⟨6, List.replicate n.toNat 0, [], [], 0, 0⟩ 6 n e w' from fun e w' hh => .inl ⟨hc, hh⟩)
    clear hc h
    go_enter Tryz.func7, Tryz.ntmps7
    go_wp2_with fail
    refine HC.out.mono ?_; rintro e w2 ⟨rfl, rfl⟩
    go_wp2_with fail
    exact bodyPost_ret (results_ob2 Tryz.results7 _ _ w.heap.size rfl rfl (heap_alloc_new w _)) rfl (HM.out _ _ ⟨rfl, below1 w _⟩)
set_option maxRecDepth 100000 in
set_option maxHeartbeats 2000000 in
theorem dict_at {O : Nat → Prop} {w : World} {s : Nat} {fr : Int} {G : List (Th × Lay)} (h : Rep O w s fr G) (n : Int) :
    Calls Tryz.prog 27 #[.pointer (some ⟨s, 0, none⟩), .int .i64 n] w (Made O w s fr G ⟨8, [], [], [], n, 0⟩ 8 n) := by
  by_cases hc : clm 8 n fr = 0
  · obtain ⟨m, rfl⟩ : ∃ m : Nat, n = m := ⟨n.toNat, by have := clm_zero hc; omega⟩
    have hm : m ≤ 4096 := by have := (clm_zero hc).2.1; unfold mostI at this; simp at this; omega
    have HC := Lib.hid (claim_ok h hc)
    have HM := Lib.hid (show ∀ e w', (e = Ending.returned (.tuple #[(newOb ⟨8, [], [], [], m, 0⟩ G.length).val, .int .i64 0]) ∧ ∃ l, Rep (Up O w w') w' s (fr - cellsI 8 m) (G ++ [(⟨8, [], [], [], m, 0⟩, l)]) ∧ Frm O w w') → Made O w s fr G ⟨8, [], [], [], m, 0⟩ 8 m e w' from fun e w' hh => .inr ⟨hc, by simpa using hh⟩)
    have hs2 := afterC_size w s (fr - cellsI 8 m)
    have hRC := ready_call (t := ⟨8, [], [], [], m, 0⟩) (l := ⟨.slice none 0 0, .slice none 0 0, .slice none 0 0⟩) (w3 := afterC w s (fr - cellsI 8 m)) h hc (by decide) (Below.refl _ _) (row_dict _ _ _ (by omega) (by omega))
    unfold thV at hRC
    have HR := Lib.hid hRC
    clear hc hRC h
    go_enter Tryz.func27, Tryz.ntmps27
    go_wp2_with fail
    refine HC.out.mono ?_; rintro e w2 ⟨rfl, rfl⟩
    go_wp2_with fail
    refine HR.out.mono ?_; rintro e w4 ⟨rfl, hB, hfin⟩
    obtain ⟨d0, d1, d2, d3, d4, d5, d6, d7, df⟩ := box_cells hB
    have HB := Lib.hid hB
    have HF := Lib.hid hfin
    clear hB hfin
    simp only [newOb, Ob.val]
    go_wp2_with fail
    have hp := put8 HB.out (.int .i64 8) (.bool false) (.int .i64 0) (.int .i64 0) (.string ⟨#[]⟩) (.int .i64 ((G.length : Int) + 1)) (.int .i64 0) (.int .i64 (Th.length ⟨8, [], [], [], m, 0⟩))
    exact bodyPost_ret (results_ob2 Tryz.results27 _ _ w.heap.size rfl rfl hp.blk) rfl (HM.out _ _ ⟨rfl, HF.out _ _ _ _ _ _ _ _ _ hp⟩)
  · have hcn : (clm 8 n fr != 0) = true := by simp [hc]
    have HC := Lib.hid (claim_not h hc)
    have HM := Lib.hid (show ∀ e w', (e = Ending.returned (.tuple #[nul.val, .int .i64 (clm 8 n fr)]) ∧ Below w.heap.size w w') → Made O w s fr G ⟨8, [], [], [], n, 0⟩ 8 n e w' from fun e w' hh => .inl ⟨hc, hh⟩)
    clear hc h
    go_enter Tryz.func27, Tryz.ntmps27
    go_wp2_with fail
    refine HC.out.mono ?_; rintro e w2 ⟨rfl, rfl⟩
    go_wp2_with fail
    exact bodyPost_ret (results_ob2 Tryz.results27 _ _ w.heap.size rfl rfl (heap_alloc_new w _)) rfl (HM.out _ _ ⟨rfl, below1 w _⟩)
theorem src_afterC {O : Nat → Prop} {w : World} {s : Nat} {fr : Int} {G : List (Th × Lay)} {a : Option Addr} {b : List UInt8} (hS : Src w a b) (h : Rep O w s fr G) (v : Int) : Src (afterC w s v) a b := by
  rcases hS with e | ⟨ad, e, hc⟩
  · exact .inl e
  · refine .inr ⟨ad, e, fun j z hz => ?_⟩
    have h0 := hc j z hz
    have hlt := World.block_lt_of_cell? w _ h0
    obtain ⟨tv, am, cm, ac, cc, hb, ht, _⟩ := h.blk
    obtain ⟨ta, tc, rfl⟩ := own_slice ht
    unfold afterC
    by_cases hs : (ad.add j).block = s
    · exfalso
      generalize ad.add j = p at h0 hlt hs
      obtain ⟨bb, off, sp⟩ := p
      have hs2 : bb = s := hs
      subst hs2
      have hsp : sp = none := World.cell?_spot h0
      subst hsp
      rw [blk_cell hb off] at h0
      rcases off with _ | _ | _ | _ | _ | _ | off <;> simp [bv] at h0
    · rw [World.cell?_of_block (w := w.alloc (.cells zeroOb 27)) (Below.heap_setCell _ _ _ _ hs), World.cell?_alloc_lt _ _ _ hlt]; exact h0
set_option maxRecDepth 100000 in
set_option maxHeartbeats 2000000 in
theorem text_at {O : Nat → Prop} {w : World} {s c : Nat} {fr : Int} {G : List (Th × Lay)} {a : Option Addr} {b : List UInt8} (h : Rep O w s fr G) (hS : Src w a b) :
    Calls Tryz.prog 12 #[.pointer (some ⟨s, 0, none⟩), .slice a b.length c] w (Made O w s fr G ⟨6, b, [], [], 0, 0⟩ 6 b.length) := by
  by_cases hc : clm 6 b.length fr = 0
  · have hm : b.length ≤ 65535 := by have := (clm_zero hc).2.1; unfold mostI at this; simp at this; omega
    have HC := Lib.hid (claim_ok h hc)
    have HM := Lib.hid (show ∀ e w', (e = Ending.returned (.tuple #[(newOb ⟨6, b, [], [], 0, 0⟩ G.length).val, .int .i64 0]) ∧ ∃ l, Rep (Up O w w') w' s (fr - cellsI 6 b.length) (G ++ [(⟨6, b, [], [], 0, 0⟩, l)]) ∧ Frm O w w') → Made O w s fr G ⟨6, b, [], [], 0, 0⟩ 6 b.length e w' from fun e w' hh => .inr ⟨hc, hh⟩)
    have hs2 := afterC_size w s (fr - cellsI 6 b.length)
    have HK := Lib.hid (clone_at (c := c) (src_afterC hS h (fr - cellsI 6 b.length)) hm)
    rw [hs2] at HK
    have HR := Lib.hid (fun w3 h23 hT => ready_call (t := ⟨6, b, [], [], 0, 0⟩) (l := ⟨.slice (some ⟨w.heap.size + 1, 0, none⟩) b.length b.length, .slice none 0 0, .slice none 0 0⟩) (w3 := w3) h hc (by decide) h23 hT)
    unfold thV at HR
    clear hc h hS
    go_enter Tryz.func12, Tryz.ntmps12
    go_wp2_with fail
    refine HC.out.mono ?_; rintro e w2 ⟨rfl, rfl⟩
    go_wp2_with fail
    refine HK.out.mono ?_; rintro e w3 ⟨rfl, hk, hb3⟩
    have HR3 := Lib.hid (HR.out w3 hb3 (row_bytes hk hm ⟨Nat.le_refl _, (Array.getElem?_eq_some_iff.1 hk).1⟩))
    clear hk hb3
    go_wp2_with fail
    refine HR3.out.mono ?_; rintro e w4 ⟨rfl, hB, hfin⟩
    obtain ⟨d0, d1, d2, d3, d4, d5, d6, d7, df⟩ := box_cells hB
    have HB := Lib.hid hB
    have HF := Lib.hid hfin
    clear hB hfin
    simp only [newOb, Ob.val]
    go_wp2_with fail
    have hp := put8 HB.out (.int .i64 6) (.bool false) (.int .i64 0) (.int .i64 0) (.string ⟨#[]⟩) (.int .i64 ((G.length : Int) + 1)) (.int .i64 0) (.int .i64 (Th.length ⟨6, b, [], [], 0, 0⟩))
    exact bodyPost_ret (results_ob2 Tryz.results12 _ _ w.heap.size rfl rfl hp.blk) rfl (HM.out _ _ ⟨rfl, HF.out _ _ _ _ _ _ _ _ _ hp⟩)
  · have hcn : (clm 6 b.length fr != 0) = true := by simp [hc]
    have HC := Lib.hid (claim_not h hc)
    have HM := Lib.hid (show ∀ e w', (e = Ending.returned (.tuple #[nul.val, .int .i64 (clm 6 b.length fr)]) ∧ Below w.heap.size w w') → Made O w s fr G ⟨6, b, [], [], 0, 0⟩ 6 b.length e w' from fun e w' hh => .inl ⟨hc, hh⟩)
    clear hc h hS
    go_enter Tryz.func12, Tryz.ntmps12
    go_wp2_with fail
    refine HC.out.mono ?_; rintro e w2 ⟨rfl, rfl⟩
    go_wp2_with fail
    exact bodyPost_ret (results_ob2 Tryz.results12 _ _ w.heap.size rfl rfl (heap_alloc_new w _)) rfl (HM.out _ _ ⟨rfl, below1 w _⟩)
end Go.Proofs.YtfilbfenpdaahaaGreatDoor
