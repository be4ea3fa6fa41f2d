/-
  A save is restored, by a contract: Restore.
-/
import Derived.Test.YtlflkdmbbomjeaaSavBack0
namespace Go.Proofs.Ytlflkdmbbomjeaa
open Go.RowKit
open St
/-- blocks of other types than a store's, its marks', saves' and a save's -/
def OtherT (w w' : World) : Prop := ∀ k, k < w.heap.size → (∀ c t f, w.heap[k]? = some (.cells c t f) → t ≠ 110 ∧ t ≠ 136 ∧ t ≠ 158 ∧ t ≠ 161) → w'.heap[k]? = w.heap[k]?
theorem restore_end {B : Nat} {w w3 w' : World} {s v : Nat} {fr : Int} {M : List Mrk} {A : List Nat} {K i j g cap : Nat} {mv mv' : Value} {ob : Obj} (hM : MkB w s (.slice none 0 0) 0 fr mv K (.slice none 0 0) M) (hS : SvB w s v (.slice (some ⟨g, 0, none⟩) A.length cap) A) (hj : j ≤ A.length) (hls : B ≤ s) (hlv : B ≤ v) (hm : ∀ k, isB mv k → B ≤ k) (hg : B ≤ g)
    (hp : ∀ x ∈ M, x.made = 0 ∧ x.free = fr ∧ x.chg = 0) (hall : ∀ n ∈ A.take j, ∃ x ∈ M.take (i + 1), x.num = n) (hb : Below w.heap.size w w3)
    (hM' : MkB w' s (.slice none 0 0) 0 fr mv' K (.slice none 0 0) (M.take (i + 1))) (hmm : ∀ k, isB mv' k → isB mv k) (hF : Frm (fun k => k = s) ((w3.setCell ⟨v, 1, none⟩ (.slice (some ⟨g, 0, none⟩) j cap)).alloc ob) w') :
    SS B w' s v fr (M.take (i + 1)) (A.take j) K ∧ Below B w w' ∧ OtherT w w' := by
  have hvs : v ≠ s := blk_ne hS.blk hM.blk (by decide)
  obtain ⟨curg, hgb⟩ := own_at hS.row
  have hgs : g ≠ s := blk_ne hgb hM.blk (by decide)
  have hgv : g ≠ v := blk_ne hgb hS.blk (by decide)
  have h3 := hb.size
  have hsz : ((w3.setCell ⟨v, 1, none⟩ (.slice (some ⟨g, 0, none⟩) j cap)).alloc ob).heap.size = w3.heap.size + 1 := by simp
  have hvl := hS.lt
  have hgl : g < w.heap.size := (Array.getElem?_eq_some_iff.1 hgb).1
  have F0 : ∀ k, k < w.heap.size → k ≠ s → k ≠ v → w'.heap[k]? = w.heap[k]? := fun k hk h1 h2 => by
    rw [hF.block k (by omega) h1, heap_alloc_old _ _ (by rw [setC_size]; omega), blk_far h2, hb.block k hk]
  have hvb : w'.heap[v]? = some (.cells #[.pointer (some ⟨s, 0, none⟩), .slice (some ⟨g, 0, none⟩) j cap] 158 (0, 0)) := by
    rw [hF.block v (by omega) hvs, heap_alloc_old _ _ (by rw [setC_size]; omega)]
    refine blk_set (cs := #[.pointer (some ⟨s, 0, none⟩), .slice (some ⟨g, 0, none⟩) A.length cap]) ?_ 1 _
    rw [hb.block v hvl]
    exact hS.blk
  have hl : (A.take j).length = j := by rw [List.length_take]; omega
  refine ⟨⟨⟨mv', .slice (some ⟨g, 0, none⟩) j cap, hM', ⟨hvb, ?_, by have := hS.few; omega⟩, fun k hk => hm k (hmm k hk), fun k hk => ?_⟩, hls, hlv, fun x hx => hp x (List.mem_of_mem_take hx), hall⟩, ?_, ?_⟩
  · rw [hl, flat_take (savC s) 2 (fun _ => rfl)]
    refine owns_same (own_cut hS.row hj) (fun k hk => ?_)
    have e : g = k := by simpa [isB, Value.ownBlock] using hk
    subst e
    exact F0 g hgl hgs hgv
  · have e : g = k := by simpa [isB, Value.ownBlock] using hk
    omega
  · refine ⟨hF.os.trans hb.os, hF.tape.trans hb.tape, hF.output.trans hb.output, by have := hF.size; omega, fun k hk => F0 k (by omega) (by omega) (by omega)⟩
  · intro k hk hT
    refine F0 k hk (fun e => ?_) (fun e => ?_)
    · subst e; exact (hT _ _ _ hM.blk).1 rfl
    · subst e; exact (hT _ _ _ hS.blk).2.2.1 rfl
set_option maxRecDepth 100000 in
set_option maxHeartbeats 1000000 in
theorem ss_restore {B : Nat} {w : World} {s v : Nat} {fr : Int} {M : List Mrk} {A : List Nat} {K i j : Nat} {x : Mrk} (h : SS B w s v fr M A K) (hx : M[i]? = some x) (hj : A[j]? = some x.num) (hfd : fndI A (sob x.num) = j) (hall : ∀ n ∈ A.take j, ∃ x ∈ M.take (i + 1), x.num = n) :
    Calls Try.prog 39 #[.pointer (some ⟨v, 0, none⟩), (sob x.num).val, .slice none 0 0] w fun e w' => e = .returned (.int .i64 0) ∧ SS B w' s v fr (M.take (i + 1)) (A.take j) K ∧ Below B w w' ∧ OtherT w w' := by
  obtain ⟨mv, lv, hM, hS, h1, h2⟩ := h.at_
  have hA := alive_all hM.rise h.all
  have HL := Lib.hid (lost_no (hS.below (below1 w (obC (sob x.num)))).sv.c0)
  have hF := find_at (hS.below (below1 w (obC (sob x.num)))).sv (hM.below (below1 w (obC (sob x.num)))).mv hM.rise hA (sob x.num)
  rw [hfd] at hF
  have HF := Lib.hid hF
  have hjl : j < A.length := (List.getElem?_eq_some_iff.1 hj).1
  have hrow := hS.row
  rcases hrow.2 with ⟨_, h0⟩ | ⟨g, cap, cur, e, _, hg, hnc, hcm, _⟩
  · omega
  subst e
  have hplain := h.plain
  have hpx := hplain x (List.mem_of_getElem? hx)
  have HK := Lib.hid (fun w => knows_nil w (some ⟨s, 0, none⟩) (x.num : Int))
  have HE := Lib.hid (fun (w3 w' : World) (mv' : Value) (ob : Obj) => restore_end (B := B) (w := w) (w3 := w3) (w' := w') (i := i) (j := j) (mv' := mv') (ob := ob) hM hS (by omega) h.ls h.lv h1 (h2 g rfl) hplain hall)
  have HMb := Lib.hid hM
  have HSb := Lib.hid hS
  have HX := Lib.hid hx
  have HJ := Lib.hid hj
  have HP := Lib.hid hpx
  unfold maxLen at hcm
  have hji : (j : Int) < (A.length : Int) := by omega
  have hjc : (j : Int) ≤ (cap : Int) := by omega
  have hfew := hS.few
  unfold obC sob at HL HF
  unfold Ob.val at HF
  unfold sob Ob.val
  simp only at HL HF
  clear h hM hS h1 h2 hA hF hfd hall hplain hpx hx hj hrow hg
  go_enter Try.func39, Try.ntmps39
  go_wp2_with fail
  refine HL.out.mono ?_; rintro e w2 ⟨rfl, rfl⟩
  go_wp2_with fail
  refine HF.out.mono ?_; rintro e w2 ⟨rfl, hb⟩
  have hb2 := bthen (below1 w _) hb
  have hv2 := (HSb.out.below hb2).sv
  have v1 := hv2.c1
  rcases hv2.row with ⟨h0, _⟩ | ⟨g', cap', e, hgl, _, _, hc⟩
  · cases h0
  cases e
  obtain ⟨l0, l1⟩ := hc j _ HJ.out
  have HB2 := Lib.hid hb2
  clear hb hb2 hv2 hc
  go_wp2_with fail
  refine (HK.out _).mono ?_; rintro e w3 ⟨rfl, hb⟩
  have hb3 := bthen HB2.out hb
  have hS3 := HSb.out.below hb3
  have hM3 := HMb.out.below hb3
  have v31 : w3.cell? ⟨v, 1, none⟩ = some (.slice (some ⟨g, 0, none⟩) A.length cap) := hS3.sv.c1
  have vf := blk_free hS3.blk
  have l30 : w3.cell? ⟨g, j * 2, none⟩ = some (.pointer (some ⟨s, 0, none⟩)) := (hb.cell (by exact hgl)).trans l0
  have l31 : w3.cell? ⟨g, j * 2 + 1, none⟩ = some (.int .i64 x.num) := (hb.cell (by exact hgl)).trans l1
  have hvlt := hS3.lt
  have hsv : s ≠ v := blk_ne hM3.blk hS3.blk (by decide)
  have hM4 : MkB ((w3.setCell ⟨v, 1, none⟩ (.slice (some ⟨g, 0, none⟩) j cap)).alloc (.cells #[.pointer (some ⟨s, 0, none⟩), .int .i64 x.num] 161)) s (.slice none 0 0) 0 fr mv K (.slice none 0 0) M :=
    hM3.same ((heap_alloc_old _ _ (by rw [setC_size]; exact hM3.lt)).trans (blk_far hsv _)) (fun k hk => (heap_alloc_old _ _ (by rw [setC_size]; exact owns_lt hM3.row hk)).trans (blk_far (fun e => own_ne hS3.blk hM3.row (by decide) (by rw [← e]; exact hk.symm)) _))
  have HBk := Lib.hid (back0_at hM4 HX.out HP.out)
  have HB3 := Lib.hid hb3
  clear hb hb3 hS3 hM3 hM4 l0 l1 v1 hgl HB2
  go_wp2_with fail
  refine HBk.out.mono ?_; rintro e w5 ⟨rfl, mv', hM', hmm, hF⟩
  have HEnd := Lib.hid (HE.out w3 w5 mv' _ HB3.out hM' hmm hF)
  clear hM' hmm hF HE
  go_wp2_with fail
  go_ret
  exact ⟨rfl, HEnd.out⟩
end Go.Proofs.Ytlflkdmbbomjeaa
