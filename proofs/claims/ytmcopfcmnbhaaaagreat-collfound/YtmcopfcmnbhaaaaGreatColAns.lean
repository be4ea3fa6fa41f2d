/-
  What a program that does nothing does not answer, of coll: answers.
-/
import Derived.Test.YtmcopfcmnbhaaaaGreatStoAns
import Derived.Test.YtmcopfcmnbhaaaaGreatColLen
namespace Go.Proofs.YtmcopfcmnbhaaaaGreat
open Go.RowKit
open St
open Stk
namespace Col
def abO : Ob := ⟨6, false, 0, 0, ⟨#[]⟩, 1, 0, 2⟩
set_option maxRecDepth 100000 in
set_option maxHeartbeats 1000000 in
theorem answers09 (w : World) : Calls Tryz.prog 7 #[] w fun e w' => e = .returned (.bool true) ∧ Below w.heap.size w w' := by
  have HN := Lib.hid (new_at 50 w (by decide) (by decide))
  go_enter Tryz.func7, Tryz.ntmps7
  go_wp2_with fail
  refine HN.out.mono ?_; rintro e w1 ⟨rfl, hr1, hb1⟩
  have hr2 := hr1.below (below1 w1 (.cells #[.int .u8 97, .int .u8 98] 5 (2, 3)))
  have hT := text_at (c := 2) hr2 (src_lit w1)
  have HT := Lib.hid (show Calls Tryz.prog 12 #[.pointer (some ⟨w.heap.size, 0, none⟩), .slice (some ⟨w1.heap.size, 0, none⟩) 2 2] (w1.alloc (.cells #[.int .u8 97, .int .u8 98] 5 (2, 3))) _ from hT)
  have hcc := Lib.run_convert_bytes_const (P := Tryz.prog) w1 36 5 #[.int .u8 97, .int .u8 98] 2 2 Tryz.underlying36 Tryz.underlying5
  simp only [List.size_toArray, List.length_cons, List.length_nil, Nat.zero_add, Nat.reduceAdd] at hcc
  have HB1 := Lib.hid (bthen hb1 (below1 w1 (.cells #[.int .u8 97, .int .u8 98] 5 (2, 3))))
  clear hr1 hb1 hr2 hT
  go_wp2_with fail
  refine HT.out.mono ?_; rintro e w3 hM
  rcases hM with ⟨hne, _⟩ | ⟨_, rfl, l, hr3, hF3⟩
  · exact absurd (by decide) hne
  · have hB3 := frm_low hF3 (B := w.heap.size) HB1.out.size (fun k hk => by rw [hk]; exact Nat.le_refl _)
    have hb5 := below2 w3 (obC abO) (obC abO)
    have hr5 := hr3.below hb5
    have hsrc : SrcO ((w3.alloc (obC abO)).alloc (obC abO)) (some ⟨w3.heap.size + 1, 0, none⟩) [abO] := .inr ⟨_, rfl, fun j z hz => by
      rw [Addr.add_lit, Nat.zero_add]
      have := blk_cell (alloc_at (W := w3.alloc (obC abO)) (k := w3.heap.size + 1) (o := obC abO) (by simp)) j
      rw [this]
      simpa [Ob.cells] using hz⟩
    have hD := do_at (c := 1) (nm := sLen) (Q := fun p n k x w' => x = 0 ∧ n = 1 ∧ k = 1 ∧ Hnd (w3.heap.size + 4) p [intO 2] w') hr5 hsrc (by simp) (by simp [valid, tld_ab, abO]) 
      (fun p n k x w4 w5 hz hf hq => ⟨hq.1, hq.2.1, hq.2.2.1, hq.2.2.2.frm (fun k hk1 hk2 => hf.block k hk2 (by simp; omega)) hf.size (Nat.le_refl _)⟩)
      (fun w4 hb4 hz4 => (do_len _ abO (hsrc.below hb4) (.inl rfl) (.inl rfl)).mono fun e w6 ⟨p, he, hh, hb6⟩ => ⟨Frm.of_below hb6, .inl ⟨p, 1, 1, he, rfl, rfl, rfl, hh.frm (fun _ _ _ => rfl) (Nat.le_refl _) (by simp at hz4; omega)⟩⟩)
    have HD := Lib.hid hD
    have HB3 := Lib.hid (HB1.out.trans hB3)
    have hO : ∀ k, k < w.heap.size → ¬ Up (fun k => k = w.heap.size) (w1.alloc (.cells #[.int .u8 97, .int .u8 98] 5 (2, 3))) w3 k := fun k hk e => by
      rcases e with e | e
      · omega
      · have := HB1.out.size; omega
    have HO := Lib.hid hO
    unfold obC abO sLen at HD
    rw [show (newOb ⟨6, [97, 98], [], [], 0, 0⟩ (List.length ([] : List (Th × Lay)))) = abO from rfl]
    unfold abO
    simp only [Ob.val]
    simp only [List.length_cons, List.length_nil, Nat.zero_add] at HD
    clear hr3 hF3 hr5 hD hB3 hb5 hsrc HT hO hcc
    go_wp2_with fail
    refine HD.out.mono ?_; rintro e w5 ⟨p, n, k, x, rfl, ⟨rfl, rfl, rfl, hh⟩, hF⟩
    have HB5 := Lib.hid (HB3.out.trans (bthen (below2 w3 _ _) (Below.refl _ _) |>.mono HB3.out.size |>.trans (hF.below (by have := HB3.out.size; simp; omega) HO.out)))
    rcases hh with hh | ⟨B, rfl, hB1, hB2, hc⟩
    · cases hh
    have c3 := hc 3 (.int .i64 2) rfl
    clear hF hc
    go_wp2_with fail
    go_ret
    exact ⟨rfl, HB5.out⟩
end Col
end Go.Proofs.YtmcopfcmnbhaaaaGreat
