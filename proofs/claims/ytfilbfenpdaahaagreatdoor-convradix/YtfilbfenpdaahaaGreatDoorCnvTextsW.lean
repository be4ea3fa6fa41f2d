/-
  The law ConvTexts, walked.
-/
import Derived.Test.YtfilbfenpdaahaaGreatDoorCnvBld
import Derived.Laws.BytesArg
namespace Go.Proofs.YtfilbfenpdaahaaGreatDoor
open Go.RowKit
open St
open Col
open Mm
open Fx Dc
namespace Cn
theorem valid_nil (o : Ob) (w : World) : Calls Tryz.prog 18 #[.pointer none, o.val] w fun e w' => e = .returned (.bool false) ∧ Below w.heap.size w w' := by
  have HB := Lib.hid (below1 w (obC o))
  unfold obC at HB
  unfold Ob.val
  go_enter Tryz.func18, Tryz.ntmps18
  go_wp2_with fail
  go_ret
  exact ⟨rfl, HB.out⟩
theorem textC_nil (o : Ob) (w : World) : Calls Tryz.prog 20 #[.pointer none, o.val] w fun e w' => e = .returned (.slice none 0 0) ∧ Below w.heap.size w w' := by
  have HV := Lib.hid (valid_nil o (w.alloc (obC o)))
  have HB := Lib.hid (below1 w (obC o))
  unfold obC Ob.val at HV
  unfold obC at HB
  unfold Ob.val
  go_enter Tryz.func20, Tryz.ntmps20
  go_wp2_with fail
  refine HV.out.mono ?_; rintro e w2 ⟨rfl, hb⟩
  have HB2 := Lib.hid (bthen HB.out hb)
  clear hb
  go_wp2_with fail
  go_ret
  exact ⟨rfl, HB2.out⟩
def oFive : Ob := ⟨1, false, 0, -5, ⟨#[]⟩, 0, 0, 0⟩
theorem txt_five : txtL [] oFive = [45, 53] := by decide +kernel
set_option maxRecDepth 100000 in
theorem answers10 (w : World) (ht : Tab w) : Calls Tryz.prog 9 #[] w fun e w' => e = .returned (.bool true) ∧ Below w.heap.size w w' := by
  have HN := Lib.hid (new_at 50 w (by decide) (by decide))
  have HT := Lib.hid (fun w2 (hb : Below w.heap.size w w2) => Tab.below ht hb)
  clear ht
  go_enter Tryz.func9, Tryz.ntmps9
  go_wp2_with fail
  refine HN.out.mono ?_; rintro e w1 ⟨rfl, hr1, hb1⟩
  have hX := textC_at hr1 oFive (HT.out w1 hb1) (by decide)
  rw [txt_five] at hX
  have HX := Lib.hid hX
  have HB1 := Lib.hid hb1
  unfold oFive Ob.val at HX
  clear hr1 hb1 hX
  go_wp2_with fail
  refine HX.out.mono ?_; rintro e w2 ⟨hb2, hor⟩
  have HB2 := Lib.hid (bthen HB1.out hb2)
  rcases hor with ⟨hno, _⟩ | ⟨B, c, rfl, hB, hlt, hs⟩
  · cases hno
  · have hcv := src_conv (c := c) hs
    clear hb2 hs hB hlt
    simp only [List.length_cons, List.length_nil, Nat.zero_add, Nat.reduceAdd] at hcv ⊢
    go_wp2_with fail
    go_ret
    exact ⟨rfl, HB2.out⟩
/-- an operation that reads is taken first -/
theorem take_l {P : Program} {l : List Oper} {Q : Exit → Act → World → Prop} {md : Region.Mode} {S : World → Prop} {i : Nat} {oi : Oper} {v : Value} {fuel : Nat} {listed : Array Bool} {a : Act} {w : World} (hi : l[i]? = some oi)
    (hs : Region.noSelect l.toArray = true) (hf : Region.free md l.toArray listed i = true) (hr : (Region.ready md l.toArray listed).contains i = true)
    (hQ : ∀ c a w, Q (.panic c) (a.put oi.dst v) w → Q (.panic c) a w) (hy : YieldsIf P l.toArray S oi v a) (hS : S w)
    (h : wpAnyH P md l.toArray Q S fuel (listed.setIfInBounds i true) (a.put oi.dst v) w) : wpAnyH P md l.toArray Q S (fuel + 1) listed a w :=
  wpAnyH_take (by simpa using hi) hs hf hr hQ hy hS h
/-- an operation that comes up next -/
theorem cons_l {P : Program} {l : List Oper} {Q : Exit → Act → World → Prop} {md : Region.Mode} {S : World → Prop} {fuel : Nat} {listed : Array Bool} {a : Act} {w : World} {i : Nat} {o : Oper} {rs : List Nat} (ho : l[i]? = some o)
    (h : ∀ K' : Act → World → Prop, Shut (∀ a w, S w → (S w → wpAnyH P md l.toArray Q S fuel (listed.setIfInBounds i true) a w) → K' a w) → if Region.wanted o (yielded l.toArray a.tmps) = true then Oper.wp P o a w K' Q else K' (a.put o.dst undef) w)
    (hs : AllReadyH P md l.toArray Q S fuel listed a w rs) : AllReadyH P md l.toArray Q S fuel listed a w (i :: rs) := AllReadyH.cons (by simpa using ho) h hs
/-- bytes that are a string then and later -/
def RowC (l : List UInt8) (w : World) (e : Ending) (w' : World) : Prop :=
  Below w.heap.size w w' ∧ ∃ p c, e = .returned (.slice p l.length c) ∧ ∀ w2, Below w'.heap.size w' w2 → (convert 35 9 (.slice p l.length c)).run Tryz.prog w2 = .ok (.string ⟨l.toArray⟩) w2
theorem RowT.rowC {l : List UInt8} {w w' : World} {e : Ending} (h : RowT l w e w') : RowC l w e w' := by
  obtain ⟨hb, ⟨rfl, rfl⟩ | ⟨B, c, rfl, _, _, hs⟩⟩ := h
  · exact ⟨hb, none, 0, rfl, fun w2 _ => run_convert_bytes_nil (P := Tryz.prog) (w := w2) 35 5 Tryz.underlying35 Tryz.underlying5 0 0 9 Tryz.underlying9⟩
  · exact ⟨hb, _, c, rfl, fun w2 h2 => src_conv (hs.below h2)⟩
theorem keep18B {W W' : World} {b c : Nat} {u0 u1 u2 u3 u4 u5 u6 u7 k0 k1 k2 k3 k4 k5 k6 k7 k8 k9 : Value} (hb : Below W.heap.size W W') (h : W.cell? ⟨b, 0, none⟩ = some u0 ∧ W.cell? ⟨b, 1, none⟩ = some u1 ∧ W.cell? ⟨b, 2, none⟩ = some u2 ∧ W.cell? ⟨b, 3, none⟩ = some u3 ∧ W.cell? ⟨b, 4, none⟩ = some u4 ∧ W.cell? ⟨b, 5, none⟩ = some u5 ∧ W.cell? ⟨b, 6, none⟩ = some u6 ∧ W.cell? ⟨b, 7, none⟩ = some u7 ∧ W.cell? ⟨c, 0, none⟩ = some k0 ∧ W.cell? ⟨c, 1, none⟩ = some k1 ∧ W.cell? ⟨c, 2, none⟩ = some k2 ∧ W.cell? ⟨c, 3, none⟩ = some k3 ∧ W.cell? ⟨c, 4, none⟩ = some k4 ∧ W.cell? ⟨c, 5, none⟩ = some k5 ∧ W.cell? ⟨c, 6, none⟩ = some k6 ∧ W.cell? ⟨c, 7, none⟩ = some k7 ∧ W.cell? ⟨c, 8, none⟩ = some k8 ∧ W.cell? ⟨c, 9, none⟩ = some k9) : W'.cell? ⟨b, 0, none⟩ = some u0 ∧ W'.cell? ⟨b, 1, none⟩ = some u1 ∧ W'.cell? ⟨b, 2, none⟩ = some u2 ∧ W'.cell? ⟨b, 3, none⟩ = some u3 ∧ W'.cell? ⟨b, 4, none⟩ = some u4 ∧ W'.cell? ⟨b, 5, none⟩ = some u5 ∧ W'.cell? ⟨b, 6, none⟩ = some u6 ∧ W'.cell? ⟨b, 7, none⟩ = some u7 ∧ W'.cell? ⟨c, 0, none⟩ = some k0 ∧ W'.cell? ⟨c, 1, none⟩ = some k1 ∧ W'.cell? ⟨c, 2, none⟩ = some k2 ∧ W'.cell? ⟨c, 3, none⟩ = some k3 ∧ W'.cell? ⟨c, 4, none⟩ = some k4 ∧ W'.cell? ⟨c, 5, none⟩ = some k5 ∧ W'.cell? ⟨c, 6, none⟩ = some k6 ∧ W'.cell? ⟨c, 7, none⟩ = some k7 ∧ W'.cell? ⟨c, 8, none⟩ = some k8 ∧ W'.cell? ⟨c, 9, none⟩ = some k9 := by
  obtain ⟨a0, a1, a2, a3, a4, a5, a6, a7, b0, b1, b2, b3, b4, b5, b6, b7, b8, b9⟩ := h
  exact ⟨(hb.cell (World.block_lt_of_cell? W _ a0)).trans a0, (hb.cell (World.block_lt_of_cell? W _ a1)).trans a1, (hb.cell (World.block_lt_of_cell? W _ a2)).trans a2, (hb.cell (World.block_lt_of_cell? W _ a3)).trans a3, (hb.cell (World.block_lt_of_cell? W _ a4)).trans a4, (hb.cell (World.block_lt_of_cell? W _ a5)).trans a5, (hb.cell (World.block_lt_of_cell? W _ a6)).trans a6, (hb.cell (World.block_lt_of_cell? W _ a7)).trans a7, (hb.cell (World.block_lt_of_cell? W _ b0)).trans b0, (hb.cell (World.block_lt_of_cell? W _ b1)).trans b1, (hb.cell (World.block_lt_of_cell? W _ b2)).trans b2, (hb.cell (World.block_lt_of_cell? W _ b3)).trans b3, (hb.cell (World.block_lt_of_cell? W _ b4)).trans b4, (hb.cell (World.block_lt_of_cell? W _ b5)).trans b5, (hb.cell (World.block_lt_of_cell? W _ b6)).trans b6, (hb.cell (World.block_lt_of_cell? W _ b7)).trans b7, (hb.cell (World.block_lt_of_cell? W _ b8)).trans b8, (hb.cell (World.block_lt_of_cell? W _ b9)).trans b9⟩
end Cn
end Go.Proofs.YtfilbfenpdaahaaGreatDoor
