/-
  A stack's calls, by contracts: New, Len, Clone, All, place, top, leave, Push.
-/
import Derived.Test.YtcmoppliipdfgaaStkBase
import Derived.Deep.RegionHeld3
import Derived.Lib.SliceRun
namespace Go.Proofs.Ytcmoppliipdfgaa
open Go.RowKit
open St Stk
/-- an append whose run is known -/
theorem wpList_append_run7 {P : Program} {w w2 : World} {ops : Array Oper} {rest : List Oper} {o : Oper} {a : Act} {Q : Exit → Act → World → Prop} (hw : Region.wanted o (yielded ops a.tmps) = true) (s x : Operand) (t u ty : TypeId) (v : Value)
    (ho : o.op = .call { callee := .builtin .append, args := #[s, x], argTypes := #[t, u] }) (hty : o.type = ty) (us ux : Value) (hs : a.eval s = us) (hx : a.eval x = ux)
    (hr : (Builtin.append_ #[t, u] ty #[us, ux]).run P w = .ok v w2) (h : wpList P ops Q rest (a.put o.dst v) w2) : wpList P ops Q (o :: rest) a w := by
  refine BigFrame.wpList_want hw fun K hK => ?_
  unfold Oper.wp execOp
  simp only [ho, hty, resolve, invoke, builtin, Sem.run_bind, Sem.run_pure, Result.andThen_ok, List.map_toArray, List.map_cons, List.map_nil, hs, hx, hr]
  exact hK _ _ h
set_option maxRecDepth 100000 in
theorem skNew_at (most ov un : Int) (w : World) (h1 : most ≤ 9223372036854775807) :
    Calls Try.prog 51 #[.int .i64 most, .int .i64 ov, .int .i64 un] w fun e w' => e = .returned (.pointer (some ⟨w.heap.size, 0, none⟩)) ∧ Sk (fun k => k = w.heap.size) w' w.heap.size (max most 0) ov un [] ∧ Below w.heap.size w w' := by
  by_cases hm : 0 ≤ most
  · rw [Int.max_eq_left hm]
    go_enter Try.func51, Try.ntmps51
    go_wp2_with fail
    go_ret
    refine ⟨rfl, ⟨rfl, fun k hk => ?_, ⟨.slice none 0 0, ?_, SL.nil _, fun k hk => ?_⟩, by omega, by omega, by simp; omega, by simp⟩, below1 w _⟩
    · rw [hk]; simp
    · exact heap_alloc_new w _
    · cases hk
  · rw [Int.max_eq_right (by omega)]
    go_enter Try.func51, Try.ntmps51
    go_wp2_with fail
    go_ret
    refine ⟨rfl, ⟨rfl, fun k hk => ?_, ⟨.slice none 0 0, ?_, SL.nil _, fun k hk => ?_⟩, by omega, by omega, by simp, by simp⟩, below1 w _⟩
    · rw [hk]; simp
    · exact heap_alloc_new w _
    · cases hk
set_option maxRecDepth 100000 in
theorem skLen_at {O : Nat → Prop} {w : World} {s : Nat} {most ov un : Int} {l : List Ob} (h : Sk O w s most ov un l) :
    Calls Try.prog 64 #[.pointer (some ⟨s, 0, none⟩)] w fun e w' => e = .returned (.int .i64 l.length) ∧ w' = w := by
  obtain ⟨v, hb, hs, _⟩ := h.blk
  obtain ⟨a, c, rfl, _⟩ := hs.form
  have h0 := blk_cell hb 0
  simp only [List.getElem?_toArray, List.getElem?_cons_zero] at h0
  have hfew := h.few
  clear h hb hs
  go_enter Try.func64, Try.ntmps64
  go_wp2_with fail
  go_ret
  exact ⟨rfl, rfl⟩
theorem skLen_nil (w : World) : Calls Try.prog 64 #[.pointer none] w fun e w' => e = .returned (.int .i64 0) ∧ w' = w := by
  go_enter Try.func64, Try.ntmps64
  go_wp2_with fail
  go_ret
  exact ⟨rfl, rfl⟩
/-- a new row that has l -/
def NewR (w : World) (l : List Ob) (v : Value) (w' : World) : Prop := SL w' v l ∧ Below w.heap.size w w' ∧ ∀ k, isB v k → w.heap.size ≤ k
set_option maxRecDepth 100000 in
theorem cloneO_at {w : World} {a : Option Addr} {c : Nat} {l : List Ob} (h : SrcO w a l) (hc : a = none → c = 0) (hm : l.length ≤ 100000) :
    Calls Try.prog 96 #[.slice a l.length c] w fun e w' => ∃ v, e = .returned v ∧ NewR w l v w' := by
  have heq := fun W a n c => Lib.run_eql_slice_nil (P := Try.prog) W 34 40 a n c 0 0 Try.underlying34
  cases a with
  | none =>
    obtain rfl := hc rfl
    obtain rfl := h.none
    clear h hm hc
    go_enter Try.func96, Try.ntmps96
    go_wp2_with fail
    go_ret
    exact ⟨_, rfl, SL.nil _, Below.refl _ _, fun k hk => by cases hk⟩
  | some ad =>
    obtain ⟨B, c2, w2, hr, hb, hB, hs⟩ := copiedO h hc hm 34
    have HR := Lib.hid hr
    have HP := Lib.hid (And.intro hb (And.intro hB hs))
    clear h hm hc hr hb hB hs
    go_enter Try.func96, Try.ntmps96
    go_wp2_with (at_builtin; refine wpList_append_run7 rfl (.tmp 5) (.tmp 6) 34 34 34 (.slice (some ⟨B, 0, none⟩) l.length c2) rfl rfl _ _ rfl rfl HR.out ?_)
    go_ret
    exact ⟨_, rfl, HP.out.2.2, HP.out.1, fun k hk => by have := isB_le hk; have := HP.out.2.1; omega⟩
set_option maxRecDepth 100000 in
theorem skAll_at {O : Nat → Prop} {w : World} {s : Nat} {most ov un : Int} {l : List Ob} (h : Sk O w s most ov un l) :
    Calls Try.prog 65 #[.pointer (some ⟨s, 0, none⟩)] w fun e w' => ∃ v, e = .returned v ∧ NewR w l v w' := by
  obtain ⟨v, hb, hs, _⟩ := h.blk
  obtain ⟨a, c, rfl, hc, _⟩ := hs.form
  have h0 := blk_cell hb 0
  simp only [List.getElem?_toArray, List.getElem?_cons_zero] at h0
  have HC := Lib.hid (cloneO_at hs.src hc (by have := h.few; omega))
  clear h hb hs hc
  go_enter Try.func65, Try.ntmps65
  go_wp2_with fail
  refine HC.out.mono ?_; rintro e w2 ⟨v, rfl, hn⟩
  have HN := Lib.hid hn
  clear hn
  go_wp2_with fail
  go_ret
  exact ⟨_, rfl, HN.out⟩
theorem skAll_nil (w : World) : Calls Try.prog 65 #[.pointer none] w fun e w' => e = .returned (.slice none 0 0) ∧ w' = w := by
  go_enter Try.func65, Try.ntmps65
  go_wp2_with fail
  go_ret
  exact ⟨rfl, rfl⟩
end Go.Proofs.Ytcmoppliipdfgaa
