/-
  doTwo at a name that is none (made by gentwo.py).
-/
import Derived.Test.YtgbpldfcahajeaaDoorAriTwo
namespace Go.Proofs.YtgbpldfcahajeaaDoor
open Go.RowKit
open Fx
namespace Ari
def names2 : List (List UInt8) := [[97, 100, 100], [115, 117, 98], [109, 117, 108], [100, 105, 118], [105, 100, 105, 118], [109, 111, 100], [97, 110, 100], [111, 114], [120, 111, 114], [98, 105, 116, 115, 104, 105, 102, 116], [103, 116], [103, 101], [108, 116], [108, 101]]
set_option maxHeartbeats 2000000 in
set_option maxRecDepth 100000 in
theorem two_none (name : ByteArray) (h : ∀ l ∈ names2, (name.toList == l) = false) (a b : Ob) (w : World) : Calls Tryd.prog 17 #[.string name, a.val, b.val] w fun e w' => e = .returned (noO 21).val ∧ Below w.heap.size w w' := by
    unfold names2 at h
    simp only [List.mem_cons, List.not_mem_nil, or_false, forall_eq_or_imp, forall_eq] at h
    obtain ⟨h0, h1, h2, h3, h4, h5, h6, h7, h8, h9, h10, h11, h12, h13⟩ := h
    unfold noO
    obtain ⟨ka, xa, ca, na, sa, ra, fa, la⟩ := a
    obtain ⟨kb, xb, cb, nb, sb, rb, fb, lb⟩ := b
    unfold Ob.val Out.val at *
    simp only at *
    go_enter Tryd.func17, Tryd.ntmps17
    go_wp2_with fail
    refine bodyPost_ret (results_ob2 Tryd.results17 _ _ (w.heap.size + 1 + 1) rfl rfl (alloc_at ?_)) rfl ⟨rfl, ?_⟩
    · simp
    · exact below3 _ _ _ _
end Ari
end Go.Proofs.YtgbpldfcahajeaaDoor
