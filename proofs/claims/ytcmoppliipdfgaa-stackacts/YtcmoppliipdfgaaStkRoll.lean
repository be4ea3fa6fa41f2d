/-
  Two rows as one (Concat), and a stack's Roll, by contracts.
-/
import Derived.Test.YtcmoppliipdfgaaStkOps8
import Derived.Test.YtcmoppliipdfgaaStkMath
namespace Go.Proofs.Ytcmoppliipdfgaa
open Go.RowKit
open St Stk
set_option maxRecDepth 100000 in
theorem grow_at (n : Nat) (hn : n ≤ 50000) (w : World) : Calls Try.prog 133 #[.slice none 0 0, .int .i64 n] w fun e w' => ∃ v, e = .returned v ∧ NewR w [] v w' := by
  obtain ⟨i0, hi, hz0, hz1, hz2⟩ := info_parts obj_info
  by_cases h0 : n = 0
  · subst h0
    clear hi hz0 hz1 hz2
    go_enter Try.func133, Try.ntmps133
    go_wp2_with fail
    go_ret
    exact ⟨_, rfl, SL.nil _, Below.refl _ _, fun k hk => by cases hk⟩
  · have hr := Lib.run_append_nil_zeros (P := Try.prog) w 34 3 34 40 i0 _ .i64 .i64 Try.underlying34 Try.underlying3 hi hz0 n (by omega) (by rw [hz1]; decide) (by omega) (by rw [hz2]; omega)
    have hcm := grownCap_le_maxLen w n 0 40 (by unfold maxLen; omega)
    have hge := grownCap_ge w n 0 40
    have hzs : (Value.agg #[.int .i64 0, .bool false, .int .i64 0, .int .i64 0, .string ⟨#[]⟩, .int .i64 0, .int .i64 0, .int .i64 0]).cells.size = 8 := rfl
    obtain ⟨cp, hcp⟩ : ∃ c, grownCap w n 0 40 = c := ⟨_, rfl⟩
    rw [hcp] at hr hcm hge
    obtain ⟨cur, hcur⟩ : ∃ c, Builtin.zeroCells (Value.agg #[.int .i64 0, .bool false, .int .i64 0, .int .i64 0, .string ⟨#[]⟩, .int .i64 0, .int .i64 0, .int .i64 0]).cells n ++ Builtin.zeroCells (Value.agg #[.int .i64 0, .bool false, .int .i64 0, .int .i64 0, .string ⟨#[]⟩, .int .i64 0, .int .i64 0, .int .i64 0]).cells (cp - n) = c := ⟨_, rfl⟩
    have hsz : cur.size = cp * 8 := by
      rw [← hcur]
      simp only [Array.size_append, size_zeroCells, hzs]
      omega
    rw [hcur] at hr
    have hN : NewR w [] (.slice (some ⟨w.heap.size, 0, none⟩) 0 cp) (w.drew.alloc (.cells cur 40)) := by
      refine ⟨.inr ⟨w.heap.size, cp, cur, rfl, heap_alloc_new w.drew _, by simp, hcm, by omega, by simp⟩, ((below_draw (Below.refl _ _) 1).alloc (Nat.le_refl _) _), fun k hk => by have := isB_le hk; omega⟩
    have HR := Lib.hid hr
    have HN := Lib.hid hN
    have hpos : (0 : Int) < (n : Int) := by omega
    clear hi hz0 hz1 hz2 hcp hcur hsz hr hN h0
    go_enter Try.func133, Try.ntmps133
    go_wp2_with (at_builtin; refine wpList_append_run7 rfl (.tmp 20) (.tmp 21) 34 3 34 (.slice (some ⟨w.heap.size, 0, none⟩) n cp) rfl rfl _ _ rfl rfl HR.out ?_)
    go_ret
    exact ⟨_, rfl, HN.out⟩
set_option maxRecDepth 100000 in
set_option maxHeartbeats 1000000 in
theorem concat_at {w : World} {B ca cb : Nat} {a b : Option Addr} {la lb : List Ob} (hB : w.heap[B]? = some (.cells #[.slice a la.length ca, .slice b lb.length cb] 34 (0, 0))) (h1 : SrcO w a la) (h2 : SrcO w b lb) (n1 : a = none → ca = 0) (n2 : b = none → cb = 0) (hm : la.length + lb.length ≤ 50000) :
    Calls Try.prog 97 #[.slice (some ⟨B, 0, none⟩) 2 2] w fun e w' => ∃ v, e = .returned v ∧ NewR w (la ++ lb) v w' := by
  have c0 : w.cell? ⟨B, 0, none⟩ = some (.slice a la.length ca) := blk_cell hB 0
  have c1 : w.cell? ⟨B, 1, none⟩ = some (.slice b lb.length cb) := blk_cell hB 1
  obtain ⟨n, hn⟩ : ∃ n, la.length + lb.length = n := ⟨_, rfl⟩
  have e1 : (la.length : Int) + (lb.length : Int) = n := by omega
  have HG := Lib.hid (grow_at n (by omega) w)
  have HB := Lib.hid hB
  have H1 := Lib.hid h1
  have H2 := Lib.hid h2
  have N1 := Lib.hid n1
  have N2 := Lib.hid n2
  have hla : la.length ≤ 50000 := by omega
  have hlb : lb.length ≤ 50000 := by omega
  have hn5 : n ≤ 50000 := by omega
  clear hB h1 h2 n1 n2 hn
  go_enter Try.func97, Try.ntmps97
  go_wp2_with fail
  refine wp_loop_rounds 3 ?_
  rw [rounds_succ]
  go_wp2_with fail
  rw [rounds_succ]
  go_wp2_with fail
  rw [rounds_succ]
  go_wp2_with fail
  refine HG.out.mono ?_; rintro e w1 ⟨v0, rfl, hn0⟩
  obtain ⟨v1, w2, hr1, hs1, hg1, hi1, hx1⟩ := SL.append hn0.1 (H1.out.below hn0.2.1) N1.out (by simp; omega) 34
  rw [List.nil_append] at hs1
  have hb2 : Below w.heap.size w w2 := Below.grown hn0.2.1 hg1 (by have := hn0.2.1.size; omega) (fun k hk => hn0.2.2 k hk)
  obtain ⟨v2, w3, hr2, hs2, hg2, hi2, hx2⟩ := SL.append hs1 (H2.out.below hb2) N2.out (by omega) 34
  have hnew1 : ∀ k, isB v1 k → w.heap.size ≤ k := fun k hk => by
    rcases hi1 k hk with e | e
    · exact hn0.2.2 k e
    · have := hn0.2.1.size; omega
  have hb3 : Below w.heap.size w w3 := Below.grown hb2 hg2 (by have := hb2.size; omega) (fun k hk => hnew1 k hk)
  have HN := Lib.hid (show NewR w (la ++ lb) v2 w3 from ⟨hs2, hb3, fun k hk => by
    rcases hi2 k hk with e | e
    · exact hnew1 k e
    · have := hb2.size; omega⟩)
  obtain ⟨va0, vc0, rfl, _⟩ := hn0.1.form
  obtain ⟨va1, vc1, rfl, _⟩ := hs1.form
  obtain ⟨va2, vc2, rfl, _⟩ := hs2.form
  obtain ⟨vn, hvn⟩ : ∃ k, (la ++ lb).length = k := ⟨_, rfl⟩
  rw [hvn] at hr2 HN
  have d0 : w1.cell? ⟨B, 0, none⟩ = some (.slice a la.length ca) := blk_cell ((hn0.2.1.block B (Array.getElem?_eq_some_iff.1 HB.out).1).trans HB.out) 0
  have d1 : w2.cell? ⟨B, 1, none⟩ = some (.slice b lb.length cb) := blk_cell ((hb2.block B (Array.getElem?_eq_some_iff.1 HB.out).1).trans HB.out) 1
  have HR1 := Lib.hid hr1
  have HR2 := Lib.hid hr2
  clear hn0 hr1 hs1 hg1 hi1 hx1 hb2 hr2 hs2 hg2 hi2 hx2 hnew1 hb3 hvn c0 c1
  simp only [List.length_nil] at *
  go_wp2_with fail
  refine wp_loop_rounds 3 ?_
  rw [rounds_succ]
  go_wp2_with (at_builtin; refine wpList_append_run7 rfl (.tmp 31) (.tmp 32) 34 34 34 (.slice va1 la.length vc1) rfl rfl _ _ rfl rfl HR1.out ?_)
  rw [rounds_succ]
  go_wp2_with (at_builtin; refine wpList_append_run7 rfl (.tmp 31) (.tmp 32) 34 34 34 (.slice va2 vn vc2) rfl rfl _ _ rfl rfl HR2.out ?_)
  rw [rounds_succ]
  go_wp2_with fail
  go_ret
  exact ⟨_, rfl, HN.out⟩
end Go.Proofs.Ytcmoppliipdfgaa
