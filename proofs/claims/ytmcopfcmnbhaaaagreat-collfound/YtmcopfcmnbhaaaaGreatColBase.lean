/-
  The small functions of coll's calls, by contracts: giving up, what an operand must be, whether it may be read and written.
-/
import Derived.Test.YtmcopfcmnbhaaaaGreatStoPart
import Derived.Deep.QuietTactic
namespace Go.Proofs.YtmcopfcmnbhaaaaGreat
open Go.RowKit
open St
namespace Col
/-- the panic by which a call gives up -/
def gu (e : Int) : Ending := .panicked [{ v := .iface 100 (.agg #[.int .i64 e]), recovered := false }]
/-- the call's own value: its store -/
def cv (s : Nat) : Value := .agg #[.pointer (some ⟨s, 0, none⟩)]
theorem giveUp_at (e : Int) (w : World) : Calls Tryz.prog 64 #[.int .i64 e] w fun x w' => x = gu e ∧ w' = w := by
  unfold gu
  go_enter Tryz.func64, Tryz.ntmps64
  go_wp2
  exact ⟨rfl, rfl, rfl⟩
theorem pass_ok (w : World) : Calls Tryz.prog 115 #[.int .i64 0] w fun x w' => x = .returned (.tuple #[]) ∧ w' = w := by
  go_enter Tryz.func115, Tryz.ntmps115
  go_wp2
  go_end0
  exact ⟨rfl, rfl⟩
theorem pass_no {e : Int} (h : e ≠ 0) (w : World) : Calls Tryz.prog 115 #[.int .i64 e] w fun x w' => x = gu e ∧ w' = w := by
  have he : (e != 0) = true := by simp [h]
  have HG := Lib.hid (giveUp_at e)
  unfold gu at HG ⊢
  go_enter Tryz.func115, Tryz.ntmps115
  go_wp2_with fail
  refine (HG.out _).mono ?_; rintro x w2 ⟨rfl, rfl⟩
  go_wp2_with fail
  exact ⟨rfl, rfl, rfl⟩
theorem need_ok (w : World) : Calls Tryz.prog 97 #[.bool true] w fun x w' => x = .returned (.tuple #[]) ∧ w' = w := by
  go_enter Tryz.func97, Tryz.ntmps97
  go_wp2
  go_end0
  exact ⟨rfl, rfl⟩
theorem need_no (w : World) : Calls Tryz.prog 97 #[.bool false] w fun x w' => x = gu 16 ∧ w' = w := by
  have HG := Lib.hid (giveUp_at 16)
  unfold gu at HG ⊢
  go_enter Tryz.func97, Tryz.ntmps97
  go_wp2_with fail
  refine (HG.out _).mono ?_; rintro x w2 ⟨rfl, rfl⟩
  go_wp2_with fail
  exact ⟨rfl, rfl, rfl⟩
theorem sureL_ok (v : Value) (w : World) : Calls Tryz.prog 105 #[v, .int .i64 0] w fun x w' => x = .returned v ∧ w' = w := by
  have HP := Lib.hid pass_ok
  go_enter Tryz.func105, Tryz.ntmps105
  go_wp2_with fail
  refine (HP.out _).mono ?_; rintro x w2 ⟨rfl, rfl⟩
  go_wp2_with fail
  go_ret
  exact ⟨rfl, rfl⟩
theorem sureB_ok (v : Value) (w : World) : Calls Tryz.prog 109 #[v, .int .i64 0] w fun x w' => x = .returned v ∧ w' = w := by
  have HP := Lib.hid pass_ok
  go_enter Tryz.func109, Tryz.ntmps109
  go_wp2_with fail
  refine (HP.out _).mono ?_; rintro x w2 ⟨rfl, rfl⟩
  go_wp2_with fail
  go_ret
  exact ⟨rfl, rfl⟩
theorem sureO_ok (o : Ob) (w : World) : Calls Tryz.prog 100 #[o.val, .int .i64 0] w fun x w' => x = .returned o.val ∧ Below w.heap.size w w' := by
  have HP := Lib.hid pass_ok
  have HB := Lib.hid (below2 w (obC o) (obC o))
  obtain ⟨x0, x1, x2, x3, x4, x5, x6, x7⟩ := cellsOb (heap_alloc_new w (obC o))
  unfold obC at HB x0 x1 x2 x3 x4 x5 x6 x7
  unfold Ob.val
  go_enter Tryz.func100, Tryz.ntmps100
  go_wp2_with fail
  refine (HP.out _).mono ?_; rintro x w2 ⟨rfl, rfl⟩
  go_wp2_with fail
  exact bodyPost_ret (results_ob1 Tryz.results100 _ _ (w.heap.size + 1) rfl (alloc_at (by simp))) rfl ⟨rfl, HB.out⟩
theorem sureO_no (o : Ob) {e : Int} (h : e ≠ 0) (w : World) : Calls Tryz.prog 100 #[o.val, .int .i64 e] w fun x w' => x = gu e ∧ Below w.heap.size w w' := by
  have HP := Lib.hid (pass_no h)
  have HB := Lib.hid (below2 w (obC o) (.cells zeroOb 41))
  unfold obC zeroOb at HB
  unfold gu at HP ⊢
  unfold Ob.val
  go_enter Tryz.func100, Tryz.ntmps100
  go_wp2_with fail
  refine (HP.out _).mono ?_; rintro x w2 ⟨rfl, rfl⟩
  go_wp2_with fail
  exact ⟨rfl, rfl, HB.out⟩
end Col
end Go.Proofs.YtmcopfcmnbhaaaaGreat
