/-
  A new mark, by a contract: Mark.
-/
import Derived.Test.YtlflkdmbbomjeaaSavMark
import Derived.Deep.RegionHeld3
namespace Go.Proofs.Ytlflkdmbbomjeaa
open Go.RowKit
open St
theorem mark_info : (Try.prog.info? 136).map (fun i => (i.zero, i.size, i.bytes)) = some (some (.agg #[.int .i64 0, .int .i64 0, .int .i64 0, .int .i64 0]), 4, 32) := by kernel_rfl
/-- an operation that reads is taken first -/
theorem take_l {P : Program} {l : List Oper} {Q : Exit → Act → World → Prop} {md : Region.Mode} {S : World → Prop} {i : Nat} {oi : Oper} {v : Value} {fuel : Nat} {listed : Array Bool} {a : Act} {w : World} (hi : l[i]? = some oi)
    (hs : Region.noSelect l.toArray = true) (hf : Region.free md l.toArray listed i = true) (hr : (Region.ready md l.toArray listed).contains i = true)
    (hQ : ∀ c a w, Q (.panic c) (a.put oi.dst v) w → Q (.panic c) a w) (hy : YieldsIf P l.toArray S oi v a) (hS : S w)
    (h : wpAnyH P md l.toArray Q S fuel (listed.setIfInBounds i true) (a.put oi.dst v) w) : wpAnyH P md l.toArray Q S (fuel + 1) listed a w :=
  wpAnyH_take (by simpa using hi) hs hf hr hQ hy hS h
/-- an operation that comes up next -/
theorem cons_l {P : Program} {l : List Oper} {Q : Exit → Act → World → Prop} {md : Region.Mode} {S : World → Prop} {fuel : Nat} {listed : Array Bool} {a : Act} {w : World} {i : Nat} {o : Oper} {rs : List Nat} (ho : l[i]? = some o)
    (h : ∀ K' : Act → World → Prop, Shut (∀ a w, S w → (S w → wpAnyH P md l.toArray Q S fuel (listed.setIfInBounds i true) a w) → K' a w) → if Region.wanted o (yielded l.toArray a.tmps) = true then Oper.wp P o a w K' Q else K' (a.put o.dst undef) w)
    (hs : AllReadyH P md l.toArray Q S fuel listed a w rs) : AllReadyH P md l.toArray Q S fuel listed a w (i :: rs) := AllReadyH.cons (by simpa using ho) h hs
theorem cell_alloc_old {W : World} {o : Obj} {a : Addr} {v : Value} (h : W.cell? a = some v) : (W.alloc o).cell? a = some v := (World.cell?_of_block (heap_alloc_old W o (World.block_lt_of_cell? W _ h))).trans h
/-- a mark has come to the row: where what is -/
def MarkMid (w : World) (s made nn nc cc : Nat) (fr : Int) (K : Nat) (tv mv : Value) (ac : Option Addr) (xs : List Value) (wx : World) : Prop :=
  ∃ gg cap, wx.heap[s]? = some (.cells #[tv, .int .i64 made, .int .i64 fr, .slice (some ⟨gg, 0, none⟩) nn cap, .int .i64 ((K : Int) + 1), .slice ac nc cc] 110 (0, 0)) ∧
    wx.ownsRow 0 136 4 (.slice (some ⟨gg, 0, none⟩) nn cap) nn (xs ++ [.int .i64 ((K : Int) + 1), .int .i64 made, .int .i64 fr, .int .i64 nc]) ∧ (mv.ownBlock = some gg ∨ w.heap.size ≤ gg) ∧ gg < wx.heap.size ∧ Two s mv w wx
theorem mark_mid {w W D w1 : World} {s made nn nc cc gg cap K : Nat} {tv mv : Value} {fr : Int} {ac : Option Addr} {xs : List Value} {ob : Obj} (hlt : s < w.heap.size) (hsne : some s ≠ mv.ownBlock) (hsz : W.heap.size = w.heap.size)
    (hWb : ∀ k, k ≠ s → W.heap[k]? = w.heap[k]?) (hWe : W.os = w.os ∧ W.tape = w.tape ∧ W.output = w.output)
    (hown : w1.ownsRow 0 136 4 (.slice (some ⟨gg, 0, none⟩) nn cap) nn (xs ++ [.int .i64 ((K : Int) + 1), .int .i64 made, .int .i64 fr, .int .i64 nc])) (hgrow : D.grownBy w1 mv.ownBlock) (hD : D.heap = (W.alloc ob).heap ∧ D.os = W.os ∧ D.tape = W.tape ∧ D.output = W.output) (hat : mv.ownBlock = some gg ∨ gg = w.heap.size + 1) (hlt1 : gg < w1.heap.size)
    (hb1 : (w1.setCell ⟨s, 3, none⟩ (.slice (some ⟨gg, 0, none⟩) nn cap)).heap[s]? = some (.cells #[tv, .int .i64 made, .int .i64 fr, .slice (some ⟨gg, 0, none⟩) nn cap, .int .i64 ((K : Int) + 1), .slice ac nc cc] 110 (0, 0))) :
    MarkMid w s made nn nc cc fr K tv mv ac xs (w1.setCell ⟨s, 3, none⟩ (.slice (some ⟨gg, 0, none⟩) nn cap)) := by
  obtain ⟨dh, d1, d2, d3⟩ := hD
  have hDs : D.heap.size = w.heap.size + 1 := by rw [dh]; simp [hsz]
  have hb : ∀ k, k < w.heap.size → k ≠ s → some k ≠ mv.ownBlock → w1.heap[k]? = w.heap[k]? := fun k hk hks hne => by rw [hgrow.block k (by omega) hne, dh, heap_alloc_old _ _ (by omega), hWb k hks]
  have hgs : gg ≠ s := by
    rcases hat with e | e
    · intro e2; rw [e2] at e; exact hsne e.symm
    · omega
  refine ⟨gg, cap, hb1, owns_same hown (fun k hk => blk_far (isB_ne hk hgs) _), ?_, by rw [setC_size]; exact hlt1, ?_⟩
  · rcases hat with e | e
    · exact .inl e
    · exact .inr (by omega)
  · refine ⟨hgrow.os.trans (d1.trans hWe.1), hgrow.tape.trans (d2.trans hWe.2.1), hgrow.output.trans (d3.trans hWe.2.2), by have := hgrow.size; rw [setC_size]; omega, fun k hk hks hne => ?_⟩
    rw [blk_far hks, hb k hk hks hne]
set_option maxRecDepth 100000 in
set_option maxHeartbeats 1000000 in
theorem mark_at {w : World} {s made K n nc cc : Nat} {fr : Int} {tv mv : Value} {ac : Option Addr} {xs : List Value}
    (hs : w.heap[s]? = some (.cells #[tv, .int .i64 made, .int .i64 fr, mv, .int .i64 K, .slice ac nc cc] 110 (0, 0))) (hown : w.ownsRow 0 136 4 mv n xs) (hn : n ≤ 1048576) (hK : K ≤ 1048576) :
    Calls Try.prog 82 #[.pointer (some ⟨s, 0, none⟩)] w fun e w' =>
      e = .returned (.int .i64 ((K : Int) + 1)) ∧ ∃ g cap, w'.heap[s]? = some (.cells #[tv, .int .i64 made, .int .i64 fr, .slice (some ⟨g, 0, none⟩) (n + 1) cap, .int .i64 ((K : Int) + 1), .slice ac nc cc] 110 (0, 0)) ∧
        w'.ownsRow 0 136 4 (.slice (some ⟨g, 0, none⟩) (n + 1) cap) (n + 1) (xs ++ [.int .i64 ((K : Int) + 1), .int .i64 made, .int .i64 fr, .int .i64 nc]) ∧ (mv.ownBlock = some g ∨ w.heap.size ≤ g) ∧ g < w'.heap.size ∧ Two s mv w w' := by
  have h4 : w.cell? ⟨s, 4, none⟩ = some (.int .i64 K) := blk_cell hs 4
  have hf4 := blk_free hs 4
  have hlt : s < w.heap.size := (Array.getElem?_eq_some_iff.1 hs).1
  have hsne := own_ne hs hown (by decide)
  have HS := Lib.hid hs
  have HO := Lib.hid hown
  clear hs hown
  go_enter Try.func82, Try.ntmps82
  go_wp2_with fail
  generalize hW : w.setCell ⟨s, 4, none⟩ (.int .i64 ((K : Int) + 1)) = W
  have hsz : W.heap.size = w.heap.size := by rw [← hW, setC_size]
  have hWs : W.heap[s]? = some (.cells #[tv, .int .i64 made, .int .i64 fr, mv, .int .i64 ((K : Int) + 1), .slice ac nc cc] 110 (0, 0)) := by rw [← hW]; exact blk_set HS.out 4 _
  have hWb : ∀ k, k ≠ s → W.heap[k]? = w.heap[k]? := fun k hk => by rw [← hW, blk_far hk]
  have hWe : W.os = w.os ∧ W.tape = w.tape ∧ W.output = w.output := by rw [← hW]; exact ⟨rfl, rfl, rfl⟩
  have hWO : W.ownsRow 0 136 4 mv n xs := owns_same HO.out (fun k hk => hWb k (fun e => hsne (by rw [← e]; exact hk.symm)))
  clear hW
  have c1 : W.cell? ⟨s, 1, none⟩ = some (.int .i64 made) := blk_cell hWs 1
  have c2 : W.cell? ⟨s, 2, none⟩ = some (.int .i64 fr) := blk_cell hWs 2
  have c3 : W.cell? ⟨s, 3, none⟩ = some mv := blk_cell hWs 3
  have c4 : W.cell? ⟨s, 4, none⟩ = some (.int .i64 ((K : Int) + 1)) := blk_cell hWs 4
  have c5 : W.cell? ⟨s, 5, none⟩ = some (.slice ac nc cc) := blk_cell hWs 5
  clear h4 hf4
  have HWs := Lib.hid hWs
  have HWb := Lib.hid hWb
  have HWO := Lib.hid hWO
  have HWe := Lib.hid hWe
  obtain ⟨i0, hi, hz0, hz1, hz2⟩ := info_parts mark_info
  have HI := Lib.hid (And.intro hi (And.intro hz0 (And.intro hz1 hz2)))
  clear hWs hWb hWO hWe hi hz0 hz1 hz2
  go_cut [36] (fun _ wx => MarkMid w s made (n + 1) nc cc fr K tv mv ac xs wx)
  case first =>
   refine wp_region_held_drew (S := fun w' => w'.cell? ⟨s, 1, none⟩ = some (.int .i64 made) ∧ w'.cell? ⟨s, 2, none⟩ = some (.int .i64 fr) ∧ w'.cell? ⟨s, 4, none⟩ = some (.int .i64 ((K : Int) + 1)) ∧ w'.cell? ⟨s, 5, none⟩ = some (.slice ac nc cc)) (by kernel_rfl) ⟨c1, c2, c4, c5⟩ (fun hHeld => ?_)
   refine take_l (i := 0) (v := ?_) rfl (by kernel_rfl) (by kernel_rfl) (by kernel_rfl) (fun _ _ _ h => h) (Or.inl ⟨by rfl, ?_⟩) (by assumption) ?_
   rotate_left
   · intro wq hSw; obtain ⟨y1, y2, y4, y5⟩ := hSw; go_simp <;> with_reducible rfl
   simp only [Act.put, List.setIfInBounds_toArray, List.set_cons_zero, List.set_cons_succ]
   refine take_l (i := 1) (v := ?_) rfl (by kernel_rfl) (by kernel_rfl) (by kernel_rfl) (fun _ _ _ h => h) (Or.inl ⟨by rfl, ?_⟩) (by assumption) ?_
   rotate_left
   · intro wq hSw; obtain ⟨y1, y2, y4, y5⟩ := hSw; go_simp <;> with_reducible rfl
   simp only [Act.put, List.setIfInBounds_toArray, List.set_cons_zero, List.set_cons_succ]
   refine take_l (i := 2) (v := ?_) rfl (by kernel_rfl) (by kernel_rfl) (by kernel_rfl) (fun _ _ _ h => h) (Or.inl ⟨by rfl, ?_⟩) (by assumption) ?_
   rotate_left
   · intro wq hSw; obtain ⟨y1, y2, y4, y5⟩ := hSw; go_simp <;> with_reducible rfl
   simp only [Act.put, List.setIfInBounds_toArray, List.set_cons_zero, List.set_cons_succ]
   refine take_l (i := 3) (v := ?_) rfl (by kernel_rfl) (by kernel_rfl) (by kernel_rfl) (fun _ _ _ h => h) (Or.inl ⟨by rfl, ?_⟩) (by assumption) ?_
   rotate_left
   · intro wq hSw; obtain ⟨y1, y2, y4, y5⟩ := hSw; go_simp <;> with_reducible rfl
   simp only [Act.put, List.setIfInBounds_toArray, List.set_cons_zero, List.set_cons_succ]
   refine take_l (i := 5) (v := ?_) rfl (by kernel_rfl) (by kernel_rfl) (by kernel_rfl) (fun _ _ _ h => h) (Or.inl ⟨by rfl, ?_⟩) (by assumption) ?_
   rotate_left
   · intro wq hSw; obtain ⟨y1, y2, y4, y5⟩ := hSw; go_simp <;> with_reducible rfl
   simp only [Act.put, List.setIfInBounds_toArray, List.set_cons_zero, List.set_cons_succ]
   refine take_l (i := 6) (v := ?_) rfl (by kernel_rfl) (by kernel_rfl) (by kernel_rfl) (fun _ _ _ h => h) (Or.inl ⟨by rfl, ?_⟩) (by assumption) ?_
   rotate_left
   · intro wq hSw; obtain ⟨y1, y2, y4, y5⟩ := hSw; go_simp <;> with_reducible rfl
   simp only [Act.put, List.setIfInBounds_toArray, List.set_cons_zero, List.set_cons_succ]
   refine take_l (i := 7) (v := ?_) rfl (by kernel_rfl) (by kernel_rfl) (by kernel_rfl) (fun _ _ _ h => h) (Or.inl ⟨by rfl, ?_⟩) (by assumption) ?_
   rotate_left
   · intro wq hSw; obtain ⟨y1, y2, y4, y5⟩ := hSw; go_simp <;> with_reducible rfl
   simp only [Act.put, List.setIfInBounds_toArray, List.set_cons_zero, List.set_cons_succ]
   refine take_l (i := 8) (v := ?_) rfl (by kernel_rfl) (by kernel_rfl) (by kernel_rfl) (fun _ _ _ h => h) (Or.inl ⟨by rfl, ?_⟩) (by assumption) ?_
   rotate_left
   · intro wq hSw; obtain ⟨y1, y2, y4, y5⟩ := hSw; go_simp <;> with_reducible rfl
   simp only [Act.put, List.setIfInBounds_toArray, List.set_cons_zero, List.set_cons_succ]
   refine take_l (i := 9) (v := ?_) rfl (by kernel_rfl) (by kernel_rfl) (by kernel_rfl) (fun _ _ _ h => h) (Or.inl ⟨by rfl, ?_⟩) (by assumption) ?_
   rotate_left
   · intro wq hSw; obtain ⟨y1, y2, y4, y5⟩ := hSw; go_simp <;> with_reducible rfl
   simp only [Act.put, List.setIfInBounds_toArray, List.set_cons_zero, List.set_cons_succ]
   refine take_l (i := 10) (v := ?_) rfl (by kernel_rfl) (by kernel_rfl) (by kernel_rfl) (fun _ _ _ h => h) (Or.inl ⟨by rfl, ?_⟩) (by assumption) ?_
   rotate_left
   · intro wq hSw; obtain ⟨y1, y2, y4, y5⟩ := hSw; go_simp <;> with_reducible rfl
   simp only [Act.put, List.setIfInBounds_toArray, List.set_cons_zero, List.set_cons_succ]
   refine take_l (i := 11) (v := ?_) rfl (by kernel_rfl) (by kernel_rfl) (by kernel_rfl) (fun _ _ _ h => h) (Or.inl ⟨by rfl, ?_⟩) (by assumption) ?_
   rotate_left
   · intro wq hSw; obtain ⟨y1, y2, y4, y5⟩ := hSw; go_simp <;> with_reducible rfl
   simp only [Act.put, List.setIfInBounds_toArray, List.set_cons_zero, List.set_cons_succ]
   refine take_l (i := 12) (v := ?_) rfl (by kernel_rfl) (by kernel_rfl) (by kernel_rfl) (fun _ _ _ h => h) (Or.inl ⟨by rfl, ?_⟩) (by assumption) ?_
   rotate_left
   · intro wq hSw; obtain ⟨y1, y2, y4, y5⟩ := hSw; go_simp <;> with_reducible rfl
   simp only [Act.put, List.setIfInBounds_toArray, List.set_cons_zero, List.set_cons_succ]
   refine take_l (i := 13) (v := ?_) rfl (by kernel_rfl) (by kernel_rfl) (by kernel_rfl) (fun _ _ _ h => h) (Or.inl ⟨by rfl, ?_⟩) (by assumption) ?_
   rotate_left
   · intro wq hSw; obtain ⟨y1, y2, y4, y5⟩ := hSw; go_simp <;> with_reducible rfl
   simp only [Act.put, List.setIfInBounds_toArray, List.set_cons_zero, List.set_cons_succ]
   refine take_l (i := 14) (v := ?_) rfl (by kernel_rfl) (by kernel_rfl) (by kernel_rfl) (fun _ _ _ h => h) (Or.inl ⟨by rfl, ?_⟩) (by assumption) ?_
   rotate_left
   · intro wq hSw; obtain ⟨y1, y2, y4, y5⟩ := hSw; go_simp <;> with_reducible rfl
   simp only [Act.put, List.setIfInBounds_toArray, List.set_cons_zero, List.set_cons_succ]
   refine take_l (i := 15) (v := ?_) rfl (by kernel_rfl) (by kernel_rfl) (by kernel_rfl) (fun _ _ _ h => h) (Or.inl ⟨by rfl, ?_⟩) (by assumption) ?_
   rotate_left
   · intro wq hSw; obtain ⟨y1, y2, y4, y5⟩ := hSw; go_simp <;> with_reducible rfl
   simp only [Act.put, List.setIfInBounds_toArray, List.set_cons_zero, List.set_cons_succ]
   refine take_l (i := 16) (v := ?_) rfl (by kernel_rfl) (by kernel_rfl) (by kernel_rfl) (fun _ _ _ h => h) (Or.inl ⟨by rfl, ?_⟩) (by assumption) ?_
   rotate_left
   · intro wq hSw; obtain ⟨y1, y2, y4, y5⟩ := hSw; go_simp <;> with_reducible rfl
   simp only [Act.put, List.setIfInBounds_toArray, List.set_cons_zero, List.set_cons_succ]
   refine take_l (i := 17) (v := ?_) rfl (by kernel_rfl) (by kernel_rfl) (by kernel_rfl) (fun _ _ _ h => h) (Or.inl ⟨by rfl, ?_⟩) (by assumption) ?_
   rotate_left
   · intro wq hSw; obtain ⟨y1, y2, y4, y5⟩ := hSw; go_simp <;> with_reducible rfl
   simp only [Act.put, List.setIfInBounds_toArray, List.set_cons_zero, List.set_cons_succ]
   refine take_l (i := 18) (v := ?_) rfl (by kernel_rfl) (by kernel_rfl) (by kernel_rfl) (fun _ _ _ h => h) (Or.inl ⟨by rfl, ?_⟩) (by assumption) ?_
   rotate_left
   · intro wq hSw; obtain ⟨y1, y2, y4, y5⟩ := hSw; go_simp <;> with_reducible rfl
   simp only [Act.put, List.setIfInBounds_toArray, List.set_cons_zero, List.set_cons_succ]
   refine take_l (i := 19) (v := ?_) rfl (by kernel_rfl) (by kernel_rfl) (by kernel_rfl) (fun _ _ _ h => h) (Or.inl ⟨by rfl, ?_⟩) (by assumption) ?_
   rotate_left
   · intro wq hSw; obtain ⟨y1, y2, y4, y5⟩ := hSw; go_simp <;> with_reducible rfl
   simp only [Act.put, List.setIfInBounds_toArray, List.set_cons_zero, List.set_cons_succ]
   refine take_l (i := 20) (v := ?_) rfl (by kernel_rfl) (by kernel_rfl) (by kernel_rfl) (fun _ _ _ h => h) (Or.inl ⟨by rfl, ?_⟩) (by assumption) ?_
   rotate_left
   · intro wq hSw; obtain ⟨y1, y2, y4, y5⟩ := hSw; go_simp <;> with_reducible rfl
   simp only [Act.put, List.setIfInBounds_toArray, List.set_cons_zero, List.set_cons_succ]
   refine take_l (i := 21) (v := ?_) rfl (by kernel_rfl) (by kernel_rfl) (by kernel_rfl) (fun _ _ _ h => h) (Or.inl ⟨by rfl, ?_⟩) (by assumption) ?_
   rotate_left
   · intro wq hSw; obtain ⟨y1, y2, y4, y5⟩ := hSw; go_simp <;> with_reducible rfl
   simp only [Act.put, List.setIfInBounds_toArray, List.set_cons_zero, List.set_cons_succ]
   refine take_l (i := 22) (v := ?_) rfl (by kernel_rfl) (by kernel_rfl) (by kernel_rfl) (fun _ _ _ h => h) (Or.inl ⟨by rfl, ?_⟩) (by assumption) ?_
   rotate_left
   · intro wq hSw; obtain ⟨y1, y2, y4, y5⟩ := hSw; go_simp <;> with_reducible rfl
   simp only [Act.put, List.setIfInBounds_toArray, List.set_cons_zero, List.set_cons_succ]
   refine wpAnyH_ready (rs := [4, 23]) (by kernel_rfl) (by simp) ?_
   refine cons_l rfl (fun Ka hKa => ?_) ?_
   · go_simp
     refine hKa.out _ _ hHeld (fun hHeld => ?_)
     clear hKa Ka
     try simp only [Act.put, List.setIfInBounds_toArray, List.set_cons_zero, List.set_cons_succ]
     refine wpAnyH_ready (rs := [23]) (by kernel_rfl) (by simp) ?_
     refine cons_l rfl (fun Ka hKa => ?_) AllReadyH.nil
     go_simp
     refine hKa.out _ _ ⟨cell_alloc_old hHeld.1, cell_alloc_old hHeld.2.1, cell_alloc_old hHeld.2.2.1, cell_alloc_old hHeld.2.2.2⟩ (fun hHeld => ?_)
     clear hKa Ka
     try simp only [Act.put, List.setIfInBounds_toArray, List.set_cons_zero, List.set_cons_succ]
     refine wpAnyH_ready (rs := [24]) (by kernel_rfl) (by simp) ?_
     refine cons_l rfl (fun K1 hK1 => ?_) AllReadyH.nil
     (refine step_append_lies _ (by rfl) _ _ _ (by rfl) 0 136 i0 _ 4 32 Try.underlying107 HI.out.1 HI.out.2.1 HI.out.2.2.1 HI.out.2.2.2 rfl (by omega) mv n xs (by rfl) ((HWO.out.alloc _).drew)
        ⟨w.heap.size, 0, none⟩ 1 1 [.int .i64 ((K : Int) + 1), .int .i64 made, .int .i64 fr, .int .i64 nc] (by rw [← hsz]; rfl) (by rfl) (World.news_of_block (cs := #[.int .i64 ((K : Int) + 1), .int .i64 made, .int .i64 fr, .int .i64 nc]) (t := 136) (fr := (0, 0)) (alloc_at hsz)) (by simp [Value.oneCell'])
        (by omega) (by unfold maxLen; omega) (by omega) (by simp) (w.heap.size + 1) (by simp [hsz]) ?_)
     intro gg cap w1 hown1 hgrow hat hlt1
     have hb0 := (hgrow.block s (by simp [hsz]; omega) hsne).trans ((heap_alloc_old W _ (by omega)).trans HWs.out)
     have k1 : w1.cell? ⟨s, 1, none⟩ = some (.int .i64 made) := blk_cell hb0 1
     have k2 : w1.cell? ⟨s, 2, none⟩ = some (.int .i64 fr) := blk_cell hb0 2
     have k3 : w1.cell? ⟨s, 3, none⟩ = some mv := blk_cell hb0 3
     have k4 : w1.cell? ⟨s, 4, none⟩ = some (.int .i64 ((K : Int) + 1)) := blk_cell hb0 4
     have k5 : w1.cell? ⟨s, 5, none⟩ = some (.slice ac nc cc) := blk_cell hb0 5
     have kf := blk_free hb0 3
     refine hK1.out _ _ ⟨k1, k2, k4, k5⟩ (fun hHeld1 => ?_)
     clear hK1 K1
     try simp only [Act.put, List.setIfInBounds_toArray, List.set_cons_zero, List.set_cons_succ]
     refine take_l (i := 25) (v := ?_) rfl (by kernel_rfl) (by kernel_rfl) (by kernel_rfl) (fun _ _ _ h => h) (Or.inl ⟨by rfl, ?_⟩) (by assumption) ?_
     rotate_left
     · intro wq hSw; obtain ⟨y1, y2, y4, y5⟩ := hSw; go_simp <;> with_reducible rfl
     try simp only [Act.put, List.setIfInBounds_toArray, List.set_cons_zero, List.set_cons_succ]
     refine take_l (i := 26) (v := ?_) rfl (by kernel_rfl) (by kernel_rfl) (by kernel_rfl) (fun _ _ _ h => h) (Or.inl ⟨by rfl, ?_⟩) (by assumption) ?_
     rotate_left
     · intro wq hSw; obtain ⟨y1, y2, y4, y5⟩ := hSw; go_simp <;> with_reducible rfl
     try simp only [Act.put, List.setIfInBounds_toArray, List.set_cons_zero, List.set_cons_succ]
     refine wpAnyH_ready (rs := [27]) (by kernel_rfl) (by simp) ?_
     refine cons_l rfl (fun K1 hK1 => ?_) AllReadyH.nil
     go_simp
     have hb1 := blk_set hb0 3 (.slice (some ⟨gg, 0, none⟩) (n + 1) cap)
     refine hK1.out _ _ ⟨blk_cell hb1 1, blk_cell hb1 2, blk_cell hb1 4, blk_cell hb1 5⟩ (fun _ => ?_)
     clear hK1 K1
     try simp only [Act.put, List.setIfInBounds_toArray, List.set_cons_zero, List.set_cons_succ]
     refine wpAnyH_done (by kernel_rfl) ?_ _
     go_wp2_with fail
     go_meet
     exact mark_mid hlt hsne hsz HWb.out HWe.out hown1 hgrow ⟨rfl, rfl, rfl, rfl⟩ hat hlt1 hb1
   refine cons_l rfl (fun Ka hKa => ?_) AllReadyH.nil
   go_simp
   refine hKa.out _ _ ⟨cell_alloc_old hHeld.1, cell_alloc_old hHeld.2.1, cell_alloc_old hHeld.2.2.1, cell_alloc_old hHeld.2.2.2⟩ (fun hHeld => ?_)
   clear hKa Ka
   try simp only [Act.put, List.setIfInBounds_toArray, List.set_cons_zero, List.set_cons_succ]
   refine wpAnyH_ready (rs := [4]) (by kernel_rfl) (by simp) ?_
   refine cons_l rfl (fun Ka hKa => ?_) AllReadyH.nil
   go_simp
   refine hKa.out _ _ hHeld (fun hHeld => ?_)
   clear hKa Ka
   try simp only [Act.put, List.setIfInBounds_toArray, List.set_cons_zero, List.set_cons_succ]
   refine wpAnyH_ready (rs := [24]) (by kernel_rfl) (by simp) ?_
   refine cons_l rfl (fun K1 hK1 => ?_) AllReadyH.nil
   (refine step_append_lies _ (by rfl) _ _ _ (by rfl) 0 136 i0 _ 4 32 Try.underlying107 HI.out.1 HI.out.2.1 HI.out.2.2.1 HI.out.2.2.2 rfl (by omega) mv n xs (by rfl) ((HWO.out.alloc _).drew)
        ⟨w.heap.size, 0, none⟩ 1 1 [.int .i64 ((K : Int) + 1), .int .i64 made, .int .i64 fr, .int .i64 nc] (by rw [← hsz]; rfl) (by rfl) (World.news_of_block (cs := #[.int .i64 ((K : Int) + 1), .int .i64 made, .int .i64 fr, .int .i64 nc]) (t := 136) (fr := (0, 0)) (alloc_at hsz)) (by simp [Value.oneCell'])
        (by omega) (by unfold maxLen; omega) (by omega) (by simp) (w.heap.size + 1) (by simp [hsz]) ?_)
   intro gg cap w1 hown1 hgrow hat hlt1
   have hb0 := (hgrow.block s (by simp [hsz]; omega) hsne).trans ((heap_alloc_old W _ (by omega)).trans HWs.out)
   have k1 : w1.cell? ⟨s, 1, none⟩ = some (.int .i64 made) := blk_cell hb0 1
   have k2 : w1.cell? ⟨s, 2, none⟩ = some (.int .i64 fr) := blk_cell hb0 2
   have k3 : w1.cell? ⟨s, 3, none⟩ = some mv := blk_cell hb0 3
   have k4 : w1.cell? ⟨s, 4, none⟩ = some (.int .i64 ((K : Int) + 1)) := blk_cell hb0 4
   have k5 : w1.cell? ⟨s, 5, none⟩ = some (.slice ac nc cc) := blk_cell hb0 5
   have kf := blk_free hb0 3
   refine hK1.out _ _ ⟨k1, k2, k4, k5⟩ (fun hHeld1 => ?_)
   clear hK1 K1
   try simp only [Act.put, List.setIfInBounds_toArray, List.set_cons_zero, List.set_cons_succ]
   refine take_l (i := 25) (v := ?_) rfl (by kernel_rfl) (by kernel_rfl) (by kernel_rfl) (fun _ _ _ h => h) (Or.inl ⟨by rfl, ?_⟩) (by assumption) ?_
   rotate_left
   · intro wq hSw; obtain ⟨y1, y2, y4, y5⟩ := hSw; go_simp <;> with_reducible rfl
   try simp only [Act.put, List.setIfInBounds_toArray, List.set_cons_zero, List.set_cons_succ]
   refine take_l (i := 26) (v := ?_) rfl (by kernel_rfl) (by kernel_rfl) (by kernel_rfl) (fun _ _ _ h => h) (Or.inl ⟨by rfl, ?_⟩) (by assumption) ?_
   rotate_left
   · intro wq hSw; obtain ⟨y1, y2, y4, y5⟩ := hSw; go_simp <;> with_reducible rfl
   try simp only [Act.put, List.setIfInBounds_toArray, List.set_cons_zero, List.set_cons_succ]
   refine wpAnyH_ready (rs := [27]) (by kernel_rfl) (by simp) ?_
   refine cons_l rfl (fun K1 hK1 => ?_) AllReadyH.nil
   go_simp
   have hb1 := blk_set hb0 3 (.slice (some ⟨gg, 0, none⟩) (n + 1) cap)
   refine hK1.out _ _ ⟨blk_cell hb1 1, blk_cell hb1 2, blk_cell hb1 4, blk_cell hb1 5⟩ (fun _ => ?_)
   clear hK1 K1
   try simp only [Act.put, List.setIfInBounds_toArray, List.set_cons_zero, List.set_cons_succ]
   refine wpAnyH_done (by kernel_rfl) ?_ _
   go_wp2_with fail
   go_meet
   exact mark_mid hlt hsne hsz HWb.out HWe.out hown1 hgrow ⟨rfl, rfl, rfl, rfl⟩ hat hlt1 hb1
  case rest =>
  obtain ⟨gg, cap, hs2, hown2, hat2, hlt2, htwo⟩ := hcut
  have d4 : wc.cell? ⟨s, 4, none⟩ = some (.int .i64 ((K : Int) + 1)) := blk_cell hs2 4
  have HF := Lib.hid (And.intro hs2 (And.intro hown2 (And.intro hat2 (And.intro hlt2 htwo))))
  clear hs2 hown2 hat2 hlt2 htwo
  go_wp2_with fail
  go_ret
  exact ⟨rfl, gg, cap, HF.out⟩
end Go.Proofs.Ytlflkdmbbomjeaa
