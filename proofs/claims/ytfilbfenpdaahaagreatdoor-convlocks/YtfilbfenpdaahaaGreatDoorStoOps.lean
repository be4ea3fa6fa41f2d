/-
  Questions to a store, and what is put, by contracts: Part, Valid, last, fill, Put, Bytes, Items, At.
-/
import Derived.Test.YtfilbfenpdaahaaGreatDoorStoNew
namespace Go.Proofs.YtfilbfenpdaahaaGreatDoor
open Go.RowKit
open St
theorem Rep.vw {O : Nat → Prop} {w : World} {s : Nat} {fr : Int} {G : List (Th × Lay)} (h : Rep O w s fr G) : ∃ tv, Vw w s tv G := by
  obtain ⟨tv, am, cm, ac, cc, ⟨c0, _⟩, hr, _⟩ := h.cells
  refine ⟨tv, c0, by have := h.few; have := h.fr0; omega, ?_⟩
  rcases hr with e | ⟨g, cap, e, hg, _, _, hc⟩
  · exact .inl e
  · exact .inr ⟨g, cap, e, hg, hc⟩
theorem told_rep {O : Nat → Prop} {w : World} {s : Nat} {fr : Int} {G : List (Th × Lay)} (h : Rep O w s fr G) {tv : Value} (hv : Vw w s tv G) (o : Ob) (k : Int) :
    Calls Tryz.prog 21 #[.pointer (some ⟨s, 0, none⟩), o.val, .int .i64 k] w fun e w' => e = .returned (thP tv (tld G o k)) ∧ Below w.heap.size w w' := told_at hv (Rep.slc h) o k
/-- is o valid? -/
def valid (G : List (Th × Lay)) (o : Ob) : Bool := if o.kind = 6 ∨ o.kind = 7 ∨ o.kind = 8 then (tld G o o.kind).isSome else true
theorem below_z {w w3 : World} {a b : Obj} (h : Below ((w.alloc a).alloc b).heap.size ((w.alloc a).alloc b) w3) : w3.heap[w.heap.size]? = some a ∧ w3.heap[w.heap.size + 1]? = some b := by
  constructor
  · rw [h.block _ (by simp; omega), heap_alloc_old _ _ (by simp)]; exact heap_alloc_new w a
  · rw [h.block _ (by simp)]; exact alloc_at (by simp)
theorem below_box {w : World} {o : Ob} {w1 : World} (h : Below (w.alloc (obC o)).heap.size (w.alloc (obC o)) w1) : Below w.heap.size w w1 := bthen (below1 w _) h
theorem box_at {w w1 : World} {o : Ob} (h : Below (w.alloc (obC o)).heap.size (w.alloc (obC o)) w1) : w1.heap[w.heap.size]? = some (obC o) := (h.block _ (by simp)).trans (heap_alloc_new w _)
theorem valid_at {O : Nat → Prop} {w : World} {s : Nat} {fr : Int} {G : List (Th × Lay)} (h : Rep O w s fr G) (o : Ob) :
    Calls Tryz.prog 18 #[.pointer (some ⟨s, 0, none⟩), o.val] w fun e w' => e = .returned (.bool (valid G o)) ∧ Below w.heap.size w w' := by
  have h1 := h.below (below1 w (obC o))
  obtain ⟨tv, hv⟩ := Rep.vw h1
  have HT := Lib.hid (told_rep h1 hv o o.kind)
  unfold obC Ob.val at HT
  unfold Ob.val
  have hvd : valid G o = if o.kind = 6 ∨ o.kind = 7 ∨ o.kind = 8 then (tld G o o.kind).isSome else true := rfl
  by_cases hk : o.kind = 6 ∨ o.kind = 7 ∨ o.kind = 8
  · rw [if_pos hk] at hvd
    rw [hvd]
    cases ht : tld G o o.kind with
    | none =>
      rw [ht] at HT
      simp only [thP, Option.map_none] at HT
      clear h1 hv hvd ht h
      obtain ⟨kd, ex, ac, n, nm, rf, fm, ln⟩ := o
      simp only at hk HT
      rcases hk with rfl | rfl | rfl
      · go_enter Tryz.func18, Tryz.ntmps18
        go_wp2_with fail
        refine HT.out.mono ?_; rintro e w1 ⟨rfl, hb⟩
        have HB := Lib.hid (bthen (below1 w _) hb)
        clear hb
        go_wp2_with fail
        go_ret
        exact ⟨rfl, HB.out⟩
      · go_enter Tryz.func18, Tryz.ntmps18
        go_wp2_with fail
        refine HT.out.mono ?_; rintro e w1 ⟨rfl, hb⟩
        have HB := Lib.hid (bthen (below1 w _) hb)
        clear hb
        go_wp2_with fail
        go_ret
        exact ⟨rfl, HB.out⟩
      · go_enter Tryz.func18, Tryz.ntmps18
        go_wp2_with fail
        refine HT.out.mono ?_; rintro e w1 ⟨rfl, hb⟩
        have HB := Lib.hid (bthen (below1 w _) hb)
        clear hb
        go_wp2_with fail
        go_ret
        exact ⟨rfl, HB.out⟩
    | some i =>
      rw [ht] at HT
      simp only [thP, Option.map_some] at HT
      clear h1 hv hvd ht h
      obtain ⟨kd, ex, ac, n, nm, rf, fm, ln⟩ := o
      simp only at hk HT
      rcases hk with rfl | rfl | rfl
      · go_enter Tryz.func18, Tryz.ntmps18
        go_wp2_with fail
        refine HT.out.mono ?_; rintro e w1 ⟨rfl, hb⟩
        have HB := Lib.hid (bthen (below1 w _) hb)
        clear hb
        go_wp2_with fail
        go_ret
        exact ⟨rfl, HB.out⟩
      · go_enter Tryz.func18, Tryz.ntmps18
        go_wp2_with fail
        refine HT.out.mono ?_; rintro e w1 ⟨rfl, hb⟩
        have HB := Lib.hid (bthen (below1 w _) hb)
        clear hb
        go_wp2_with fail
        go_ret
        exact ⟨rfl, HB.out⟩
      · go_enter Tryz.func18, Tryz.ntmps18
        go_wp2_with fail
        refine HT.out.mono ?_; rintro e w1 ⟨rfl, hb⟩
        have HB := Lib.hid (bthen (below1 w _) hb)
        clear hb
        go_wp2_with fail
        go_ret
        exact ⟨rfl, HB.out⟩
  · rw [if_neg hk] at hvd
    rw [hvd]
    have e6 : (o.kind == 6) = false := by simp; omega
    have e7 : (o.kind == 7) = false := by simp; omega
    have e8 : (o.kind == 8) = false := by simp; omega
    clear hk hvd h1 hv HT h
    go_enter Tryz.func18, Tryz.ntmps18
    go_wp2_with fail
    go_ret
    exact ⟨rfl, below1 _ _⟩
theorem last_at {O : Nat → Prop} {w : World} {s : Nat} {fr : Int} {G : List (Th × Lay)} (h : Rep O w s fr G) :
    Calls Tryz.prog 67 #[.pointer (some ⟨s, 0, none⟩)] w fun e w' => e = .returned (.agg #[.int .i64 0, .int .i64 0, .int .i64 0, .int .i64 0]) ∧ Below w.heap.size w w' := by
  obtain ⟨tv, am, cm, ac, cc, ⟨_, _, _, c3, _⟩, _⟩ := h.cells
  have hlt := h.lt
  clear h
  go_enter Tryz.func67, Tryz.ntmps67
  go_wp2_with fail
  refine bodyPost_ret (v := .agg #[.int .i64 0, .int .i64 0, .int .i64 0, .int .i64 0]) (by simp [results, Tryz.results67, go_sem]) rfl ⟨rfl, below1 w _⟩
/-- the part of o's part -/
def prt (o : Ob) (f n : Int) : Ob := ⟨o.kind, o.exec, o.acc, o.n, o.name, o.ref, o.frm + f, n⟩
theorem liesB_iff {f n L : Int} : liesB f n L = true ↔ 0 ≤ f ∧ 0 ≤ n ∧ f ≤ L ∧ n ≤ L - f := by unfold liesB; simp
end Go.Proofs.YtfilbfenpdaahaaGreatDoor
