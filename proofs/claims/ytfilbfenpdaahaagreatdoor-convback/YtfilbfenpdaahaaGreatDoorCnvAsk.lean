/-
  What conv's worker asks of an operand: its access, whether it may be read and written, whether it is held; by contracts.
-/
import Derived.Test.YtfilbfenpdaahaaGreatDoorStoWrite
import Derived.Test.YtfilbfenpdaahaaGreatDoorBxBox
namespace Go.Proofs.YtfilbfenpdaahaaGreatDoor
open Go.RowKit
open St
open Stk
open Col
namespace Cv
def cw (s : Nat) : Value := .agg #[.pointer (some ⟨s, 0, none⟩)]
def cwC (s : Nat) : Obj := .cells #[.pointer (some ⟨s, 0, none⟩)] 73
/-- an operand's access -/
def acs (G : List (Th × Lay)) (o : Ob) : Int := if o.kind = 8 then accV (dicT G o) else o.acc
theorem accessOf_at {O : Nat → Prop} {w : World} {s : Nat} {fr : Int} {G : List (Th × Lay)} (h : Rep O w s fr G) (o : Ob) :
    Calls Tryz.prog 61 #[cw s, o.val] w fun e w' => e = .returned (.int .i64 (acs G o)) ∧ Below w.heap.size w w' := by
  have hb := below2 w (cwC s) (obC o)
  have HA := Lib.hid (access_at (h.below hb) o)
  have HB := Lib.hid hb
  unfold cwC obC at HB HA
  unfold Ob.val at HA
  unfold cw Ob.val
  clear h hb
  by_cases h8 : o.kind = 8
  · have e : acs G o = accV (dicT G o) := by unfold acs; rw [if_pos h8]
    rw [e]
    rw [h8] at HA HB ⊢
    clear h8 e
    go_enter Tryz.func61, Tryz.ntmps61
    go_wp2_with fail
    refine HA.out.mono ?_; rintro e w2 ⟨rfl, hb2⟩
    have HB2 := Lib.hid (bthen HB.out hb2)
    clear hb2
    go_wp2_with fail
    go_ret
    exact ⟨rfl, HB2.out⟩
  · have e : acs G o = o.acc := by unfold acs; rw [if_neg h8]
    have e8 : (o.kind == 8) = false := by simp [h8]
    rw [e]
    clear h8 e
    go_enter Tryz.func61, Tryz.ntmps61
    go_wp2_with fail
    go_ret
    exact ⟨rfl, HB.out⟩
theorem mayRead_at {O : Nat → Prop} {w : World} {s : Nat} {fr : Int} {G : List (Th × Lay)} (h : Rep O w s fr G) (o : Ob) :
    Calls Tryz.prog 43 #[cw s, o.val] w fun e w' => e = .returned (.bool (acs G o == 0 || acs G o == 1)) ∧ Below w.heap.size w w' := by
  have hb := below2 w (cwC s) (obC o)
  have HA := Lib.hid (accessOf_at (h.below hb) o)
  have HB := Lib.hid hb
  unfold cwC obC at HB HA
  unfold cw Ob.val at HA
  unfold cw Ob.val
  clear h hb
  generalize acs G o = a at *
  by_cases h0 : a = 0
  · subst h0
    go_enter Tryz.func43, Tryz.ntmps43
    go_wp2_with fail
    refine HA.out.mono ?_; rintro e w2 ⟨rfl, hb2⟩
    have HB2 := Lib.hid (bthen HB.out hb2)
    clear hb2
    go_wp2_with fail
    go_ret
    exact ⟨rfl, HB2.out⟩
  · have e0 : (a == 0) = false := by simp [h0]
    rw [e0, Bool.false_or]
    clear h0
    go_enter Tryz.func43, Tryz.ntmps43
    go_wp2_with fail
    refine HA.out.mono ?_; rintro e w2 ⟨rfl, hb2⟩
    have HB2 := Lib.hid (bthen HB.out hb2)
    clear hb2
    go_wp2_with fail
    go_ret
    exact ⟨rfl, HB2.out⟩
theorem mayWrite_at {O : Nat → Prop} {w : World} {s : Nat} {fr : Int} {G : List (Th × Lay)} (h : Rep O w s fr G) (o : Ob) :
    Calls Tryz.prog 44 #[cw s, o.val] w fun e w' => e = .returned (.bool (acs G o == 0)) ∧ Below w.heap.size w w' := by
  have hb := below2 w (cwC s) (obC o)
  have HA := Lib.hid (accessOf_at (h.below hb) o)
  have HB := Lib.hid hb
  unfold cwC obC at HB HA
  unfold cw Ob.val at HA
  unfold cw Ob.val
  clear h hb
  generalize acs G o = a at *
  go_enter Tryz.func44, Tryz.ntmps44
  go_wp2_with fail
  refine HA.out.mono ?_; rintro e w2 ⟨rfl, hb2⟩
  have HB2 := Lib.hid (bthen HB.out hb2)
  clear hb2
  go_wp2_with fail
  go_ret
  exact ⟨rfl, HB2.out⟩
def held (o : Ob) : Bool := o.kind == 7 || o.kind == 6 || o.kind == 8
theorem isHeld_at (o : Ob) (w : World) : Calls Tryz.prog 60 #[o.val] w fun e w' => e = .returned (.bool (held o)) ∧ Below w.heap.size w w' := by
  have HB := Lib.hid (below1 w (obC o))
  unfold obC at HB
  unfold held Ob.val
  by_cases h7 : o.kind = 7
  · rw [h7] at HB ⊢
    clear h7
    go_enter Tryz.func60, Tryz.ntmps60
    go_wp2_with fail
    go_ret
    exact ⟨rfl, HB.out⟩
  have e7 : (o.kind == 7) = false := by simp [h7]
  rw [e7, Bool.false_or]
  by_cases h6 : o.kind = 6
  · rw [h6] at HB e7 ⊢
    clear h7 h6
    go_enter Tryz.func60, Tryz.ntmps60
    go_wp2_with fail
    go_ret
    exact ⟨rfl, HB.out⟩
  have e6 : (o.kind == 6) = false := by simp [h6]
  rw [e6, Bool.false_or]
  clear h7 h6
  go_enter Tryz.func60, Tryz.ntmps60
  go_wp2_with fail
  go_ret
  exact ⟨rfl, HB.out⟩
def boolC (b : Bool) : Ob := ⟨3, false, 0, if b then 1 else 0, ⟨#[]⟩, 0, 0, 0⟩
theorem truth_at (b : Bool) (w : World) : Calls Tryz.prog 35 #[.bool b] w fun e w' => e = .returned (boolC b).val ∧ Below w.heap.size w w' := by
  have HB := Lib.hid (below1 w (obC (boolC b)))
  have HZ := Lib.hid (below1 w (obC nul))
  unfold obC boolC at HB
  unfold boolC Ob.val
  cases b <;> simp only [if_true, if_false, Bool.false_eq_true] at HB ⊢
  all_goals
    go_enter Tryz.func35, Tryz.ntmps35
    go_wp2_with fail
    exact bodyPost_ret (results_ob1 Tryz.results35 _ _ w.heap.size rfl (heap_alloc_new w _)) rfl ⟨rfl, HB.out⟩
end Cv
end Go.Proofs.YtfilbfenpdaahaaGreatDoor
