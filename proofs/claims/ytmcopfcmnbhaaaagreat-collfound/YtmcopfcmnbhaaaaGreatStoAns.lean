/-
  What a program that does nothing does not answer, by a contract: answers.
-/
import Derived.Test.YtmcopfcmnbhaaaaGreatStoBytes
import Derived.Lib.SlBytesConst
namespace Go.Proofs.YtmcopfcmnbhaaaaGreat
open Go.RowKit
open St
theorem conv_bytes {w : World} {B c : Nat} {t : List UInt8} (h : w.heap[B]? = some (.cells (t.map bv).toArray 5 (0, 0))) : (convert 36 9 (.slice (some ⟨B, 0, none⟩) t.length c)).run Tryz.prog w = .ok (.string ⟨t.toArray⟩) w := by
  refine run_convert_bytes_back w 36 9 5 ⟨B, 0, none⟩ c t Tryz.underlying36 Tryz.underlying5 Tryz.underlying9 (fun j hj => ?_)
  rw [Addr.add_lit, Nat.zero_add, blk_cell h j]
  simp [bv, hj]
theorem frm_low {O : Nat → Prop} {B : Nat} {w w' : World} (h : Frm O w w') (hB : B ≤ w.heap.size) (hO : ∀ k, O k → B ≤ k) : Below B w w' := h.below hB (fun k hk e => by have := hO k e; omega)
theorem src_lit (w : World) : Src (w.alloc (.cells #[.int .u8 97, .int .u8 98] 5 (2, 3))) (some ⟨w.heap.size, 0, none⟩) [97, 98] := by
  refine .inr ⟨_, rfl, fun j z hz => ?_⟩
  rw [Addr.add_lit, Nat.zero_add, blk_cell (heap_alloc_new w _)]
  rcases j with _ | _ | j
  · simp at hz; subst hz; rfl
  · simp at hz; subst hz; rfl
  · simp at hz
theorem tld_ab (l : Lay) : tld [(⟨6, [97, 98], [], [], 0, 0⟩, l)] ⟨6, false, 0, 0, ⟨#[]⟩, 1, 0, 2⟩ 6 = some 0 := by simp [tld, Th.length, liesB]
theorem bytesR_ab (l : Lay) : bytesR [(⟨6, [97, 98], [], [], 0, 0⟩, l)] ⟨6, false, 0, 0, ⟨#[]⟩, 1, 0, 2⟩ = [97, 98] := by unfold bytesR; rw [tld_ab]; rfl
end Go.Proofs.YtmcopfcmnbhaaaaGreat
