/-
  What a program that does nothing does not answer, by a contract: answers.
-/
import Derived.Test.YtcmoppliipdfgaaStoBytes
import Derived.Lib.SlBytesConst
namespace Go.Proofs.Ytcmoppliipdfgaa
open Go.RowKit
open St
theorem conv_bytes {w : World} {B c : Nat} {t : List UInt8} (h : w.heap[B]? = some (.cells (t.map bv).toArray 5 (0, 0))) : (convert 36 9 (.slice (some ⟨B, 0, none⟩) t.length c)).run Try.prog w = .ok (.string ⟨t.toArray⟩) w := by
  refine run_convert_bytes_back w 36 9 5 ⟨B, 0, none⟩ c t Try.underlying36 Try.underlying5 Try.underlying9 (fun j hj => ?_)
  rw [Addr.add_lit, Nat.zero_add, blk_cell h j]
  simp [bv, hj]
theorem frm_low {O : Nat → Prop} {B : Nat} {w w' : World} (h : Frm O w w') (hB : B ≤ w.heap.size) (hO : ∀ k, O k → B ≤ k) : Below B w w' := h.below hB (fun k hk e => by have := hO k e; omega)
theorem src_lit (w : World) : Src (w.alloc (.cells #[.int .u8 97, .int .u8 98] 5 (2, 3))) (some ⟨w.heap.size, 0, none⟩) [97, 98] := by
  refine .inr ⟨_, rfl, fun j z hz => ?_⟩
  rw [Addr.add_lit, Nat.zero_add, blk_cell (heap_alloc_new w _)]
  rcases j with _ | _ | j
  · simp at hz; subst hz; rfl
  · simp at hz; subst hz; rfl
  · simp at hz
theorem tld_ab (l : Lay) : tld [(⟨6, [97, 98], [], [], 0, 0⟩, l)] ⟨6, false, 0, 0, ⟨#[]⟩, 1, 0, 2⟩ 6 = some 0 := by simp [tld, Th.length, liesB]
theorem bytesR_ab (l : Lay) : bytesR [(⟨6, [97, 98], [], [], 0, 0⟩, l)] ⟨6, false, 0, 0, ⟨#[]⟩, 1, 0, 2⟩ = [97, 98] := by unfold bytesR; rw [tld_ab]; rfl
set_option maxRecDepth 100000 in
set_option maxHeartbeats 1000000 in
theorem answers_any (w : World) : Calls Try.prog 10 #[] w fun e w' => e = .returned (.bool true) ∧ Below w.heap.size w w' := by
  have HN := Lib.hid (new_at 100 w (by decide) (by decide))
  go_enter Try.func10, Try.ntmps10
  go_wp2_with fail
  refine HN.out.mono ?_; rintro e w1 ⟨rfl, hr1, hb1⟩
  have hr2 := hr1.below (below1 w1 (.cells #[.int .u8 97, .int .u8 98] 5 (2, 3)))
  have hT := text_at (c := 2) hr2 (src_lit w1)
  have HT := Lib.hid (show Calls Try.prog 44 #[.pointer (some ⟨w.heap.size, 0, none⟩), .slice (some ⟨w1.heap.size, 0, none⟩) 2 2] (w1.alloc (.cells #[.int .u8 97, .int .u8 98] 5 (2, 3))) _ from hT)
  have hcc := Lib.run_convert_bytes_const (P := Try.prog) w1 36 5 #[.int .u8 97, .int .u8 98] 2 2 Try.underlying36 Try.underlying5
  simp only [List.size_toArray, List.length_cons, List.length_nil, Nat.zero_add, Nat.reduceAdd] at hcc
  have HB1 := Lib.hid (bthen hb1 (below1 w1 (.cells #[.int .u8 97, .int .u8 98] 5 (2, 3))))
  clear hr1 hb1 hr2 hT
  go_wp2_with fail
  refine HT.out.mono ?_; rintro e w3 hM
  rcases hM with ⟨hne, _⟩ | ⟨_, rfl, l, hr3, hF3⟩
  · exact absurd (by decide) hne
  · have hr4 := hr3.below (below1 w3 (obC ⟨6, false, 0, 0, ⟨#[]⟩, 1, 0, 2⟩))
    have hY := bytes_at hr4 ⟨6, false, 0, 0, ⟨#[]⟩, 1, 0, 2⟩
    have hB3 := frm_low hF3 (B := w.heap.size) HB1.out.size (fun k hk => by rw [hk]; exact Nat.le_refl _)
    have HB3 := Lib.hid (HB1.out.trans hB3)
    have HY := Lib.hid hY
    have HFr := Lib.hid (fun w5 hb => free_at (w := w5) (hr4.below hb))
    unfold obC at HY HFr
    simp only [newOb, Ob.val] at HY ⊢
    clear hr3 hF3 hr4 hY hB3 HT
    go_wp2_with fail
    refine HY.out.mono ?_; rintro e w5 hBy
    obtain ⟨hb5, hcase⟩ := hBy
    rcases hcase with ⟨hno, _⟩ | ⟨B, hBl, _, rfl, hB⟩
    · rw [List.nil_append, tld_ab] at hno; cases hno
    · rw [List.nil_append, bytesR_ab] at hB
      have hcv : (convert 36 9 (.slice (some ⟨B, 0, none⟩) 2 2)).run Try.prog w5 = .ok (.string ⟨#[97, 98]⟩) w5 := conv_bytes (c := 2) hB
      have HF := Lib.hid (HFr.out w5 hb5)
      have HB5 := Lib.hid (HB3.out.trans ((bthen (below1 w3 _) hb5).mono HB3.out.size))
      simp only [List.nil_append, bytesR_ab]
      clear hb5 hB HFr HY
      go_wp2_with fail
      refine HF.out.mono ?_; rintro e w6 ⟨rfl, rfl⟩
      go_wp2_with fail
      go_ret
      exact ⟨rfl, HB5.out⟩
end Go.Proofs.Ytcmoppliipdfgaa
