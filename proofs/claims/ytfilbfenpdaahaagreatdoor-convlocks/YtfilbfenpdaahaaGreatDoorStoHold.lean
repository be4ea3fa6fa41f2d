/-
  A thing is taken up, by a contract: hold.
-/
import Derived.Test.YtfilbfenpdaahaaGreatDoorStoCells
namespace Go.Proofs.YtfilbfenpdaahaaGreatDoor
open Go.RowKit
open St
theorem thing_info : (Tryz.prog.info? 69).map (fun i => (i.zero, i.size, i.bytes)) = some (some (.agg #[.int .i64 0, .int .i64 0, .slice none 0 0, .slice none 0 0, .slice none 0 0, .int .i64 0, .int .i64 0]), 7, 104) := by kernel_rfl
/-- of two worlds: only block s, the row of tv, and new blocks differ -/
structure Two (s : Nat) (tv : Value) (w w' : World) : Prop where
  os : w'.os = w.os
  tape : w'.tape = w.tape
  output : w'.output = w.output
  size : w.heap.size ≤ w'.heap.size
  block : ∀ k, k < w.heap.size → k ≠ s → some k ≠ tv.ownBlock → w'.heap[k]? = w.heap[k]?
def zeroOb : Array Value := #[.int .i64 0, .bool false, .int .i64 0, .int .i64 0, .string ⟨#[]⟩, .int .i64 0, .int .i64 0, .int .i64 0]
/-- a thing has come to the row: where what is -/
def Mid (w : World) (s n nn : Nat) (tv : Value) (fr : Int) (am acc : Option Addr) (cm cc : Nat) (xs cs : List Value) (t o : Array Value) (wx : World) : Prop :=
  ∃ gg cap, wx.heap[s]? = some (.cells #[.slice (some ⟨gg, 0, none⟩) nn cap, .int .i64 ((n : Int) + 1), .int .i64 fr, .slice am 0 cm, .int .i64 0, .slice acc 0 cc] 63 (0, 0)) ∧
    wx.ownsRow 0 69 7 (.slice (some ⟨gg, 0, none⟩) nn cap) nn (xs ++ cs) ∧ (tv.ownBlock = some gg ∨ w.heap.size ≤ gg) ∧ gg < wx.heap.size ∧
    wx.heap[w.heap.size]? = some (.cells t 69 (0, 0)) ∧ wx.heap[w.heap.size + 1]? = some (.cells o 27 (0, 0)) ∧ Two s tv w wx
theorem mid_of {w W w1 : World} {s n nn gg cap cm cc : Nat} {tv : Value} {fr : Int} {am acc : Option Addr} {xs cs : List Value} {t o : Array Value} {ob : Obj} {D : World} (hlt : s < w.heap.size) (hsne : some s ≠ tv.ownBlock) (hHne : some w.heap.size ≠ tv.ownBlock) (hH1 : some (w.heap.size + 1) ≠ tv.ownBlock) (hsz : W.heap.size = w.heap.size + 2)
    (hWt : W.heap[w.heap.size]? = some (.cells t 69 (0, 0))) (hWo : W.heap[w.heap.size + 1]? = some (.cells o 27 (0, 0))) (hWb : ∀ k, k < w.heap.size → k ≠ s → W.heap[k]? = w.heap[k]?) (hWe : W.os = w.os ∧ W.tape = w.tape ∧ W.output = w.output)
    (hown : w1.ownsRow 0 69 7 (.slice (some ⟨gg, 0, none⟩) nn cap) nn (xs ++ cs)) (hgrow : D.grownBy w1 tv.ownBlock) (hD : D.heap = (W.alloc ob).heap ∧ D.os = W.os ∧ D.tape = W.tape ∧ D.output = W.output) (hat : tv.ownBlock = some gg ∨ gg = w.heap.size + 3) (hlt1 : gg < w1.heap.size)
    (hb0 : w1.heap[s]? = some (.cells #[tv, .int .i64 ((n : Int) + 1), .int .i64 fr, .slice am 0 cm, .int .i64 0, .slice acc 0 cc] 63 (0, 0))) :
    Mid w s n nn tv fr am acc cm cc xs cs t o (w1.setCell ⟨s, 0, none⟩ (.slice (some ⟨gg, 0, none⟩) nn cap)) := by
  obtain ⟨dh, d1, d2, d3⟩ := hD
  have hDs : D.heap.size = w.heap.size + 3 := by rw [dh]; simp [hsz]
  have hb : ∀ k, k < w.heap.size + 2 → some k ≠ tv.ownBlock → w1.heap[k]? = W.heap[k]? := fun k hk hne => by rw [hgrow.block k (by omega) hne, dh, heap_alloc_old _ _ (by omega)]
  have hgs : gg ≠ s := by
    rcases hat with e | e
    · intro e2; rw [e2] at e; exact hsne e.symm
    · omega
  refine ⟨gg, cap, blk_set hb0 0 _, owns_same hown (fun k hk => blk_far (isB_ne hk hgs) _), ?_, by simpa [World.setCell] using hlt1, ?_, ?_, ?_⟩
  · rcases hat with e | e
    · exact .inl e
    · exact .inr (by omega)
  · rw [blk_far (by omega), hb _ (by omega) hHne, hWt]
  · rw [blk_far (by omega), hb _ (by omega) hH1, hWo]
  · refine ⟨hgrow.os.trans (d1.trans hWe.1), hgrow.tape.trans (d2.trans hWe.2.1), hgrow.output.trans (d3.trans hWe.2.2), by have := hgrow.size; simp [World.setCell]; omega, fun k hk hks hne => ?_⟩
    rw [blk_far hks, hb k (by omega) hne, hWb k hk hks]
theorem hold_end {w wc w' : World} {s n gg cap cm cc : Nat} {tv : Value} {fr : Int} {am acc : Option Addr} {xs cs : List Value} (hlt : s < w.heap.size)
    (hs : wc.heap[s]? = some (.cells #[.slice (some ⟨gg, 0, none⟩) (n + 1) cap, .int .i64 ((n : Int) + 1), .int .i64 fr, .slice am 0 cm, .int .i64 0, .slice acc 0 cc] 63 (0, 0))) (ho : wc.ownsRow 0 69 7 (.slice (some ⟨gg, 0, none⟩) (n + 1) cap) (n + 1) (xs ++ cs))
    (ha : (tv.ownBlock = some gg ∨ w.heap.size ≤ gg) ∧ gg < wc.heap.size) (ht : Two s tv w wc) (hgo : gg ≠ w.heap.size + 1) (e2 : ∀ k, k ≠ w.heap.size + 1 → w'.heap[k]? = wc.heap[k]?) (e3 : w'.heap.size = wc.heap.size) (e4 : w'.os = wc.os ∧ w'.tape = wc.tape ∧ w'.output = wc.output) :
    ∃ g cap, w'.heap[s]? = some (.cells #[.slice (some ⟨g, 0, none⟩) (n + 1) cap, .int .i64 (n + 1 : Nat), .int .i64 fr, .slice am 0 cm, .int .i64 0, .slice acc 0 cc] 63 (0, 0)) ∧
        w'.ownsRow 0 69 7 (.slice (some ⟨g, 0, none⟩) (n + 1) cap) (n + 1) (xs ++ cs) ∧ (tv.ownBlock = some g ∨ w.heap.size ≤ g) ∧ g < w'.heap.size ∧ Two s tv w w' := by
  refine ⟨gg, cap, (e2 s (by omega)).trans hs, owns_same ho (fun k hk => e2 k (isB_ne hk hgo)), ha.1, by rw [e3]; exact ha.2, ?_⟩
  exact ⟨e4.1.trans ht.os, e4.2.1.trans ht.tape, e4.2.2.trans ht.output, by rw [e3]; exact ht.size, fun k hk hks hne => (e2 k (by omega)).trans (ht.block k hk hks hne)⟩
set_option maxRecDepth 100000 in
set_option maxHeartbeats 4000000 in
theorem hold_at {w : World} {s nb ni np cb ci cp cm cc : Nat} {kd mo ac fr : Int} {n : Nat} {tv : Value} {ab ai ap am acc : Option Addr} {xs : List Value}
    (hs : w.heap[s]? = some (.cells #[tv, .int .i64 n, .int .i64 fr, .slice am 0 cm, .int .i64 0, .slice acc 0 cc] 63 (0, 0))) (hown : w.ownsRow 0 69 7 tv n xs) (hn : n ≤ 1048576) :
    Calls Tryz.prog 16 #[.pointer (some ⟨s, 0, none⟩), .agg #[.int .i64 0, .int .i64 kd, .slice ab nb cb, .slice ai ni ci, (.slice ap np cp), .int .i64 mo, .int .i64 ac]] w fun e w' =>
      e = .returned (Ob.val ⟨kd, false, 0, 0, ⟨#[]⟩, n + 1, 0, lenOf kd nb ni⟩) ∧ ∃ g cap, w'.heap[s]? = some (.cells #[.slice (some ⟨g, 0, none⟩) (n + 1) cap, .int .i64 (n + 1 : Nat), .int .i64 fr, .slice am 0 cm, .int .i64 0, .slice acc 0 cc] 63 (0, 0)) ∧
        w'.ownsRow 0 69 7 (.slice (some ⟨g, 0, none⟩) (n + 1) cap) (n + 1) (xs ++ [.int .i64 (n + 1 : Nat), .int .i64 kd, .slice ab nb cb, .slice ai ni ci, (.slice ap np cp), .int .i64 mo, .int .i64 ac]) ∧ (tv.ownBlock = some g ∨ w.heap.size ≤ g) ∧ g < w'.heap.size ∧ Two s tv w w' := by
  have h1 : w.cell? ⟨s, 1, none⟩ = some (.int .i64 n) := blk_cell hs 1
  have hf1 := blk_free hs 1
  have hlt : s < w.heap.size := (Array.getElem?_eq_some_iff.1 hs).1
  have hsne := own_ne hs hown (by decide)
  have hHne : some w.heap.size ≠ tv.ownBlock := fun e => by have := (hown.lt _ e.symm).2; omega
  have hH1 : some (w.heap.size + 1) ≠ tv.ownBlock := fun e => by have := (hown.lt _ e.symm).2; omega
  have HS := Lib.hid hs
  have HO := Lib.hid hown
  clear hs hown
  go_enter Tryz.func16, Tryz.ntmps16
  go_wp2_with fail
  generalize hW : ((w.setCell ⟨s, 1, none⟩ (.int .i64 ((n : Int) + 1))).alloc (Obj.cells #[.int .i64 ((n : Int) + 1), .int .i64 kd, .slice ab nb cb, .slice ai ni ci, (.slice ap np cp), .int .i64 mo, .int .i64 ac] 69)).alloc (Obj.cells #[.int .i64 0, .bool false, .int .i64 0, .int .i64 0, .string ⟨#[]⟩, .int .i64 0, .int .i64 0, .int .i64 0] 27) = W
  have hsz : W.heap.size = w.heap.size + 2 := by rw [← hW]; simp
  have hWs : W.heap[s]? = some (.cells #[tv, .int .i64 ((n : Int) + 1), .int .i64 fr, .slice am 0 cm, .int .i64 0, .slice acc 0 cc] 63 (0, 0)) := by
    rw [← hW, heap_alloc_old _ _ (by simp; omega), heap_alloc_old _ _ (by simp; omega)]; exact blk_set HS.out 1 _
  have hWt : W.heap[w.heap.size]? = some (.cells #[.int .i64 ((n : Int) + 1), .int .i64 kd, .slice ab nb cb, .slice ai ni ci, (.slice ap np cp), .int .i64 mo, .int .i64 ac] 69 (0, 0)) := by
    rw [← hW, heap_alloc_old _ _ (by simp)]
    exact alloc_at (by simp)
  have hWo : W.heap[w.heap.size + 1]? = some (.cells zeroOb 27 (0, 0)) := by
    rw [← hW]
    exact alloc_at (by simp)
  have hWb : ∀ k, k < w.heap.size → k ≠ s → W.heap[k]? = w.heap[k]? := fun k hk hks => by
    rw [← hW, heap_alloc_old _ _ (by simp; omega), heap_alloc_old _ _ (by simp; omega), blk_far hks]
  have hWO : W.ownsRow 0 69 7 tv n xs := owns_same HO.out (fun k hk => hWb k (owns_lt HO.out hk) (fun e => hsne (by rw [← e]; exact hk.symm)))
  have hWe : W.os = w.os ∧ W.tape = w.tape ∧ W.output = w.output := by rw [← hW]; exact ⟨rfl, rfl, rfl⟩
  clear hW
  have c0 : W.cell? ⟨s, 0, none⟩ = some tv := blk_cell hWs 0
  have f0 := blk_free hWs 0
  have t0 : W.cell? ⟨w.heap.size, 0, none⟩ = some (.int .i64 ((n : Int) + 1)) := blk_cell hWt 0
  have t1 : W.cell? ⟨w.heap.size, 1, none⟩ = some (.int .i64 kd) := blk_cell hWt 1
  have t2 : W.cell? ⟨w.heap.size, 2, none⟩ = some (.slice ab nb cb) := blk_cell hWt 2
  have t3 : W.cell? ⟨w.heap.size, 3, none⟩ = some (.slice ai ni ci) := blk_cell hWt 3
  have t4 : W.cell? ⟨w.heap.size, 4, none⟩ = some (.slice ap np cp) := blk_cell hWt 4
  have t5 : W.cell? ⟨w.heap.size, 5, none⟩ = some (.int .i64 mo) := blk_cell hWt 5
  have t6 : W.cell? ⟨w.heap.size, 6, none⟩ = some (.int .i64 ac) := blk_cell hWt 6
  have HWs := Lib.hid hWs
  have HWt := Lib.hid hWt
  have HWo := Lib.hid hWo
  have HWb := Lib.hid hWb
  have HWO := Lib.hid hWO
  have HWe := Lib.hid hWe
  obtain ⟨i0, hi, hz0, hz1, hz2⟩ := info_parts thing_info
  have HI := Lib.hid (And.intro hi (And.intro hz0 (And.intro hz1 hz2)))
  clear hWs hWt hWo hWb hWO hWe hi hz0 hz1 hz2 h1 hf1
  have hlt2 : s < w.heap.size + 2 := by omega
  go_cut [24] (fun _ wx => Mid w s n (n + 1) tv fr am acc cm cc xs [.int .i64 ((n : Int) + 1), .int .i64 kd, .slice ab nb cb, .slice ai ni ci, .slice ap np cp, .int .i64 mo, .int .i64 ac] #[.int .i64 ((n : Int) + 1), .int .i64 kd, .slice ab nb cb, .slice ai ni ci, .slice ap np cp, .int .i64 mo, .int .i64 ac] zeroOb wx)
  case first =>
   go_region_law
    ((refine step_append_lies _ (by rfl) _ _ _ (by rfl) 0 69 i0 _ 7 104 Tryz.underlying59 HI.out.1 HI.out.2.1 HI.out.2.2.1 HI.out.2.2.2 rfl (by omega) tv n xs (by rfl) ((HWO.out.alloc _).drew)
        ⟨w.heap.size + 2, 0, none⟩ 1 1 [.int .i64 ((n : Int) + 1), .int .i64 kd, .slice ab nb cb, .slice ai ni ci, (.slice ap np cp), .int .i64 mo, .int .i64 ac] (by rfl) (by rfl) (World.news_of_block (cs := #[.int .i64 ((n : Int) + 1), .int .i64 kd, .slice ab nb cb, .slice ai ni ci, (.slice ap np cp), .int .i64 mo, .int .i64 ac]) (t := 69) (fr := (0, 0)) (alloc_at hsz)) (by simp [Value.oneCell'])
        (by omega) (by unfold maxLen; omega) (by omega) (by simp) (w.heap.size + 3) (by simp [hsz]) ?_; intro gg cap w1 hown1 hgrow hat hlt1; have hb0 := (hgrow.block s (by simp [hsz]; omega) hsne).trans ((heap_alloc_old W _ (by omega)).trans HWs.out); have k0 : w1.cell? ⟨s, 0, none⟩ = some tv := blk_cell hb0 0; have kf := blk_free hb0 0))
   all_goals go_wp2_with fail
   all_goals go_meet
   all_goals exact mid_of hlt hsne hHne hH1 hsz HWt.out HWo.out HWb.out HWe.out hown1 hgrow ⟨rfl, rfl, rfl, rfl⟩ hat hlt1 hb0
  case rest =>
  obtain ⟨gg, cap, hs2, hown2, hat2, hlt2, ht2, ho2, htwo⟩ := hcut
  have HS2 := Lib.hid hs2
  have HO2 := Lib.hid hown2
  have HH2 := Lib.hid ho2
  have HT2 := Lib.hid htwo
  have HA2 := Lib.hid (And.intro hat2 hlt2)
  have c0 : wc.cell? ⟨w.heap.size, 0, none⟩ = some (.int .i64 ((n : Int) + 1)) := blk_cell ht2 0
  have c1 : wc.cell? ⟨w.heap.size, 1, none⟩ = some (.int .i64 kd) := blk_cell ht2 1
  have HL := Lib.hid (fun q => length_at (w := wc.drewN q) (g := w.heap.size) (o := 0) (blk_cell ht2 1) (blk_cell ht2 2) (blk_cell ht2 3))
  have d0 : wc.cell? ⟨w.heap.size + 1, 0, none⟩ = some (.int .i64 0) := blk_cell ho2 0
  have d1 : wc.cell? ⟨w.heap.size + 1, 1, none⟩ = some (.bool false) := blk_cell ho2 1
  have d2 : wc.cell? ⟨w.heap.size + 1, 2, none⟩ = some (.int .i64 0) := blk_cell ho2 2
  have d3 : wc.cell? ⟨w.heap.size + 1, 3, none⟩ = some (.int .i64 0) := blk_cell ho2 3
  have d4 : wc.cell? ⟨w.heap.size + 1, 4, none⟩ = some (.string ⟨#[]⟩) := blk_cell ho2 4
  have d5 : wc.cell? ⟨w.heap.size + 1, 5, none⟩ = some (.int .i64 0) := blk_cell ho2 5
  have d6 : wc.cell? ⟨w.heap.size + 1, 6, none⟩ = some (.int .i64 0) := blk_cell ho2 6
  have d7 : wc.cell? ⟨w.heap.size + 1, 7, none⟩ = some (.int .i64 0) := blk_cell ho2 7
  have df : ∀ o, wc.frozen? ⟨w.heap.size + 1, o, none⟩ = false := blk_free ho2
  clear hs2 hown2 ho2 ht2 htwo hat2 hlt2 t0 t1 t2 t3 t4 t5 t6 f0 HWs HWt HWo HWb HWO HWe HI hsz
  go_wp2_with fail
  go_cut [31] (fun _ wx => Put8 (wc.drewN 1) (w.heap.size + 1) 27 (.int .i64 kd) (.bool false) (.int .i64 0) (.int .i64 0) (.string ⟨#[]⟩) (.int .i64 ((n : Int) + 1)) (.int .i64 0) (.int .i64 (lenOf kd nb ni)) wx)
  case first =>
    go_region_with (first | (go_at_call 33; refine (HL.out 1).mono ?_; rintro e w2 ⟨rfl, rfl⟩))
    all_goals (go_wp2_with fail; go_meet; with_reducible exact put8 HH2.out _ _ _ _ _ _ _ _)
  case rest =>
  go_wp2_with fail
  refine bodyPost_ret (results_ob1 Tryz.results16 _ _ (w.heap.size + 1) rfl hcut.blk) rfl ⟨rfl, ?_⟩
  exact hold_end hlt HS2.out HO2.out HA2.out HT2.out (own_other HO2.out HH2.out) (fun k hk => hcut.far k hk) hcut.size ⟨hcut.os, hcut.tape, hcut.output⟩
end Go.Proofs.YtfilbfenpdaahaaGreatDoor
