/-
  conv.isNumber, by a contract.
-/
import Derived.Test.YtfilbfenpdaahaaGreatDoorAriCmp
import Derived.Test.YtfilbfenpdaahaaGreatDoorCnvLay
namespace Go.Proofs.YtfilbfenpdaahaaGreatDoor
open Go.RowKit
open St
open Stk
open Col
namespace Cv
def ari (o : Ob) : Ari.Ob := ⟨o.kind, o.exec, o.acc, o.n, o.name, o.ref, o.frm, o.len⟩
def numB (o : Ob) : Bool := Ari.isNumB (ari o)
set_option maxRecDepth 100000 in
theorem equalC_at (o : Ob) (w : World) : Calls Tryz.prog 72 #[o.val, o.val] w fun e w' => ∃ b, e = .returned (.tuple #[.bool b, .bool (numB o)]) ∧ Below w.heap.size w w' := by
  have hC := Ari.cmp_any Ari.clo_eq (ari o) (ari o)
  have e : (Ari.isNumB (ari o) && Ari.isNumB (ari o)) = numB o := Bool.and_self _
  generalize (Ari.isNumB (ari o) && Ari.isNumB (ari o) && (Ari.valI (ari o) == Ari.valI (ari o))) = x at *
  rw [e] at hC
  generalize numB o = y at *
  have HC := Lib.hid hC
  clear e hC
  obtain ⟨ka, xa, ca, na, sa, ra, fa, la⟩ := o
  unfold ari Ari.Ob.val at HC
  unfold Ob.val
  simp only at *
  go_enter Tryz.func72, Tryz.ntmps72
  go_wp2_with fail
  refine (HC.out _).mono ?_; rintro e w1 ⟨rfl, hb1⟩
  have HB := Lib.hid (bthen (below2 _ _ _) hb1)
  clear hb1
  go_wp2_with fail
  go_ret2
  exact ⟨x, rfl, HB.out⟩
set_option maxRecDepth 100000 in
theorem isNumC_at (o : Ob) (w : World) : Calls Tryz.prog 57 #[o.val] w fun e w' => e = .returned (.bool (numB o)) ∧ Below w.heap.size w w' := by
  have HE := Lib.hid (fun w2 => equalC_at o w2)
  have H1 := Lib.hid (below1 w (obC o))
  generalize numB o = y at *
  unfold obC at H1
  unfold Ob.val at *
  go_enter Tryz.func57, Tryz.ntmps57
  go_wp2_with fail
  refine (HE.out _).mono ?_; rintro e w1 ⟨b, rfl, hb1⟩
  have HB := Lib.hid (bthen H1.out hb1)
  clear hb1
  go_wp2_with fail
  go_ret
  exact ⟨rfl, HB.out⟩
theorem numB_str {o : Ob} (h : o.kind = 6) : numB o = false := by
  unfold numB Ari.isNumB ari
  rw [h]; rfl
theorem numB_num {o : Ob} (h : o.kind = 1 ∨ o.kind = 2) (hn : -2147483648 ≤ o.n ∧ o.n ≤ 2147483647) : numB o = true := by
  unfold numB
  rw [Ari.isNum_iff]
  exact ⟨h, hn⟩
end Cv
end Go.Proofs.YtfilbfenpdaahaaGreatDoor
