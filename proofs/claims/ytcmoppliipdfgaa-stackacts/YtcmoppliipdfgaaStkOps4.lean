/-
  A stack's calls, by contracts: Pop, Top, Swap, Take.
-/
import Derived.Test.YtcmoppliipdfgaaStkOps3
namespace Go.Proofs.Ytcmoppliipdfgaa
open Go.RowKit
open St Stk
def stkC (v : Value) (most ov un : Int) : Obj := .cells #[v, .int .i64 most, .int .i64 ov, .int .i64 un] 176 (0, 0)
theorem leave_set {w : World} {s n c g : Nat} {most ov un : Int} (h : SkC w s (.slice (some ⟨g, 0, none⟩) n c) most ov un) (hc : n ≤ c) {i : Nat} (hi : i ≤ n) : Calls Try.prog 94 #[.pointer (some ⟨s, 0, none⟩), .int .i64 i] w fun e w' => e = .returned (.tuple #[]) ∧ Set1 w s (stkC (.slice (some ⟨g, 0, none⟩) i i) most ov un) w' :=
  (leave_ok h hc hi).mono fun _ _ ⟨he, hw⟩ => ⟨he, hw ▸ h.put⟩
theorem leave_set0 {w : World} {s : Nat} {most ov un : Int} (h : SkC w s (.slice none 0 0) most ov un) : Calls Try.prog 94 #[.pointer (some ⟨s, 0, none⟩), .int .i64 0] w fun e w' => e = .returned (.tuple #[]) ∧ Set1 w s (stkC (.slice none 0 0) most ov un) w' :=
  (leave_none h).mono fun _ _ ⟨he, hw⟩ => ⟨he, hw ▸ h.put⟩
/-- an object, an error, and the stack -/
def SkO (O : Nat → Prop) (w : World) (s : Nat) (most ov un : Int) (l : List Ob) (o : Ob) (E : Int) (e : Ending) (w' : World) : Prop := e = .returned (.tuple #[o.val, .int .i64 E]) ∧ SkP O w s most ov un l w'
section
variable {O : Nat → Prop} {w : World} {s : Nat} {most ov un : Int} {l : List Ob}
set_option maxRecDepth 100000
set_option maxHeartbeats 1000000
/-- where an object's place is told to be none -/
theorem top_no {i x : Int} (h : Sk O w s most ov un l) (hp : ∀ w1, Below w.heap.size w w1 → Calls Try.prog 93 #[.pointer (some ⟨s, 0, none⟩), .int .i64 i] w1 fun e w' => e = .returned (.tuple #[.pointer none, .int .i64 x]) ∧ ∃ q, w' = w1.drewN q) :
    Calls Try.prog 56 #[.pointer (some ⟨s, 0, none⟩), .int .i64 i] w (SkO O w s most ov un l nul x) := by
  have hb := below1 w (.cells zeroOb 40)
  have HP := Lib.hid (hp _ hb)
  have HZ := Lib.hid (fun q => (show ((w.alloc (.cells zeroOb 40)).drewN q).heap[w.heap.size]? = some (.cells zeroOb 40 (0, 0)) from heap_alloc_new w _))
  have HK := Lib.hid (fun w3 (hb : Below w.heap.size w w3) => h.keep hb)
  have HB := Lib.hid (fun q => below_draw hb q)
  unfold SkO nul
  unfold zeroOb at HP HZ HB
  clear h hp hb
  go_enter Try.func56, Try.ntmps56
  go_wp2_with fail
  refine HP.out.mono ?_; rintro e w1 ⟨rfl, q, rfl⟩
  have hz := HZ.out q
  obtain ⟨d0, d1, d2, d3, d4, d5, d6, d7, df⟩ := box_cells hz
  clear hz
  go_wp2_with fail
  have hp := put8 (HZ.out q) (.int .i64 0) (.bool false) (.int .i64 0) (.int .i64 0) (.string ⟨#[]⟩) (.int .i64 0) (.int .i64 0) (.int .i64 0)
  exact bodyPost_ret (results_ob2 Try.results56 _ _ w.heap.size rfl rfl hp.blk) rfl ⟨rfl, HK.out _ (below_put8 (HB.out q) (Nat.le_refl _) hp)⟩
theorem pop_no (h : Sk O w s most ov un []) : Calls Try.prog 54 #[.pointer (some ⟨s, 0, none⟩)] w (SkO O w s most ov un [] nul un) := by
  have hb := below1 w (.cells zeroOb 40)
  obtain ⟨la, lc, hk, _⟩ := h.skc
  have HP := Lib.hid (place_under (hk.below hb) (i := 0) (by decide) (by simp))
  have HZ := Lib.hid (fun q => (show ((w.alloc (.cells zeroOb 40)).drewN q).heap[w.heap.size]? = some (.cells zeroOb 40 (0, 0)) from heap_alloc_new w _))
  have HK := Lib.hid (fun w3 (hb : Below w.heap.size w w3) => h.keep hb)
  have HB := Lib.hid (fun q => below_draw hb q)
  unfold SkO nul
  unfold zeroOb at HP HZ HB
  clear h hk hb
  go_enter Try.func54, Try.ntmps54
  go_wp2_with fail
  refine HP.out.mono ?_; rintro e w1 ⟨rfl, q, rfl⟩
  have hz := HZ.out q
  obtain ⟨d0, d1, d2, d3, d4, d5, d6, d7, df⟩ := box_cells hz
  clear hz
  go_wp2_with fail
  have hp := put8 (HZ.out q) (.int .i64 0) (.bool false) (.int .i64 0) (.int .i64 0) (.string ⟨#[]⟩) (.int .i64 0) (.int .i64 0) (.int .i64 0)
  exact bodyPost_ret (results_ob2 Try.results54 _ _ w.heap.size rfl rfl hp.blk) rfl ⟨rfl, HK.out _ (below_put8 (HB.out q) (Nat.le_refl _) hp)⟩
theorem top_yes {i : Nat} {o : Ob} (h : Sk O w s most ov un l) (hi : i < l.length) (ho : l[l.length - 1 - i]? = some o) :
    Calls Try.prog 56 #[.pointer (some ⟨s, 0, none⟩), .int .i64 i] w (SkO O w s most ov un l o 0) := by
  have hb := below1 w (.cells zeroOb 40)
  obtain ⟨la, lc, hk, hl, _⟩ := h.skc
  obtain ⟨g, rfl⟩ : ∃ g, la = some ⟨g, 0, none⟩ := by
    rcases hl with ⟨_, e⟩ | ⟨g, cap, cur, e, _⟩
    · rw [e] at hi; simp at hi
    · cases e; exact ⟨g, rfl⟩
  have HP := Lib.hid (place_ok (hk.below hb) h.few hi)
  have HZ := Lib.hid (fun q => (show ((w.alloc (.cells zeroOb 40)).drewN q).heap[w.heap.size]? = some (.cells zeroOb 40 (0, 0)) from heap_alloc_new w _))
  have HK := Lib.hid (fun w3 (hb : Below w.heap.size w w3) => h.keep hb)
  have HB := Lib.hid (fun q => below_draw hb q)
  obtain ⟨m, hm⟩ : ∃ m, l.length - 1 - i = m := ⟨_, rfl⟩
  rw [hm] at HP ho
  have HC := Lib.hid (fun q => (hl.below (HB.out q)).obAt ho)
  unfold SkO Ob.val
  unfold zeroOb at HP HZ HB HC
  clear h hk hb hm hl ho
  go_enter Try.func56, Try.ntmps56
  go_wp2_with fail
  refine HP.out.mono ?_; rintro e w1 ⟨rfl, q, rfl⟩
  have hz := HZ.out q
  obtain ⟨d0, d1, d2, d3, d4, d5, d6, d7, df⟩ := box_cells hz
  obtain ⟨o0, o1, o2, o3, o4, o5, o6, o7⟩ := HC.out q
  clear hz
  go_wp2_with fail
  have hp := put8 (HZ.out q) (.int .i64 o.kind) (.bool o.exec) (.int .i64 o.acc) (.int .i64 o.n) (.string o.name) (.int .i64 o.ref) (.int .i64 o.frm) (.int .i64 o.len)
  exact bodyPost_ret (results_ob2 Try.results56 _ _ w.heap.size rfl rfl hp.blk) rfl ⟨rfl, HK.out _ (below_put8 (HB.out q) (Nat.le_refl _) hp)⟩
end
end Go.Proofs.Ytcmoppliipdfgaa
