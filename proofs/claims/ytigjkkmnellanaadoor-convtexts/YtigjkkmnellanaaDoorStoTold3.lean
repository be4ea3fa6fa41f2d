/-
  The thing that an object tells of, by contracts: byRef, told.
-/
import Derived.Test.YtigjkkmnellanaaDoorStoTold2
namespace Go.Proofs.YtigjkkmnellanaaDoor
open Go.RowKit
open St
theorem byRef_yes {w : World} {s i : Nat} {tv : Value} {G : List (Th × Lay)} (h : Vw w s tv G) (hi : i < G.length) :
    Calls Tryd.prog 41 #[.pointer (some ⟨s, 0, none⟩), .int .i64 (i + 1 : Nat)] w fun e w' => e = .returned (.pointer (some ⟨blkOf tv, i * 7, none⟩)) ∧ Below w.heap.size w w' := by
  have hU := upTo_at h (i + 1 : Nat)
  have eU : upN ((i + 1 : Nat) : Int) G.length = i + 1 := by unfold upN; simp; omega
  rw [eU] at hU
  have HU := Lib.hid hU
  have HV := Lib.hid h
  clear hU eU h
  go_enter Tryd.func41, Tryd.ntmps41
  go_wp2_with fail
  refine HU.out.mono ?_; rintro e w1 ⟨rfl, hb⟩
  have hv := HV.out.below hb
  have HB := Lib.hid hb
  clear hb
  rcases hv.row with ⟨_, rfl⟩ | ⟨g, cap, rfl, hg, hc⟩
  · simp at hi
  · have h0 := hv.c0
    have hfew := hv.few
    have h1 : w1.cell? ⟨g, i * 7, none⟩ = some (.int .i64 (i + 1 : Nat)) := (hc i 0 _ (List.getElem?_eq_getElem hi) (by omega)).trans rfl
    clear hc hv
    go_wp2_with fail
    go_ret
    exact ⟨rfl, HB.out⟩
theorem byRef_no {w : World} {s : Nat} {r : Int} {tv : Value} {G : List (Th × Lay)} (h : Vw w s tv G) (hr : ¬ (1 ≤ r ∧ r ≤ G.length)) :
    Calls Tryd.prog 41 #[.pointer (some ⟨s, 0, none⟩), .int .i64 r] w fun e w' => e = .returned (.pointer none) ∧ Below w.heap.size w w' := by
  have hU := upTo_at h r
  have HV := Lib.hid h
  by_cases h0 : upN r G.length = 0
  · rw [h0] at hU
    have HU := Lib.hid hU
    clear hU h0 h hr
    go_enter Tryd.func41, Tryd.ntmps41
    go_wp2_with fail
    refine HU.out.mono ?_; rintro e w1 ⟨rfl, hb⟩
    have HB := Lib.hid hb
    clear hb
    go_wp2_with fail
    go_ret
    exact ⟨rfl, HB.out⟩
  · have eU : upN r G.length = G.length ∧ G.length < r := by unfold upN at h0 ⊢; omega
    obtain ⟨eU, hgt⟩ := eU
    rw [eU] at hU
    obtain ⟨m, hm⟩ : ∃ m, G.length = m + 1 := ⟨G.length - 1, by rw [eU] at h0; omega⟩
    rw [hm] at hU hgt
    have HU := Lib.hid hU
    have hne : (((m : Int) + 1) != r) = true := by simp; omega
    clear hU h0 h hr eU
    go_enter Tryd.func41, Tryd.ntmps41
    go_wp2_with fail
    refine HU.out.mono ?_; rintro e w1 ⟨rfl, hb⟩
    have hv := HV.out.below hb
    have HB := Lib.hid hb
    clear hb
    rcases hv.row with ⟨_, rfl⟩ | ⟨g, cap, rfl, hg, hc⟩
    · simp at hm
    · have h0 := hv.c0
      have hfew := hv.few
      have h1 : w1.cell? ⟨g, m * 7, none⟩ = some (.int .i64 (m + 1 : Nat)) := (hc m 0 _ (List.getElem?_eq_getElem (by omega)) (by omega)).trans rfl
      rw [hm] at h0 hfew
      clear hc hv
      go_wp2_with fail
      go_ret
      exact ⟨rfl, HB.out⟩
/-- which thing o tells of, if it is valid and of that Kind -/
def tld (G : List (Th × Lay)) (o : Ob) (k : Int) : Option Nat :=
  if o.kind = k ∧ 1 ≤ o.ref then
    match G[o.ref.toNat - 1]? with
    | some x => if x.1.kind = k ∧ liesB o.frm o.len x.1.length = true then some (o.ref.toNat - 1) else none
    | none => none
  else none
def thP (tv : Value) (x : Option Nat) : Value := .pointer (x.map fun i => ⟨blkOf tv, i * 7, none⟩)
theorem tld_some {G : List (Th × Lay)} {o : Ob} {k : Int} {i : Nat} (h : tld G o k = some i) : o.kind = k ∧ o.ref = (i + 1 : Nat) ∧ ∃ x, G[i]? = some x ∧ x.1.kind = k ∧ liesB o.frm o.len x.1.length = true := by
  unfold tld at h
  split at h
  · rename_i hk
    split at h
    · rename_i x hx
      split at h
      · rename_i hl
        cases h
        exact ⟨hk.1, by omega, x, hx, hl.1, hl.2⟩
      · cases h
    · cases h
  · cases h
theorem thC_len {w : World} {g i : Nat} {x : Th × Lay} {G : List (Th × Lay)} (hx : G[i]? = some x) (hc : ∀ (i f : Nat) (x : Th × Lay), G[i]? = some x → f < 7 → w.cell? ⟨g, i * 7 + f, none⟩ = (thC i x)[f]?) :
    w.cell? ⟨g, i * 7, none⟩ = some (.int .i64 (i + 1 : Nat)) ∧ w.cell? ⟨g, i * 7 + 1, none⟩ = some (.int .i64 x.1.kind) ∧ w.cell? ⟨g, i * 7 + 2, none⟩ = some x.2.b ∧ w.cell? ⟨g, i * 7 + 3, none⟩ = some x.2.i ∧ w.cell? ⟨g, i * 7 + 4, none⟩ = some x.2.p ∧ w.cell? ⟨g, i * 7 + 5, none⟩ = some (.int .i64 x.1.most) ∧ w.cell? ⟨g, i * 7 + 6, none⟩ = some (.int .i64 x.1.acc) :=
  ⟨hc i 0 x hx (by omega), hc i 1 x hx (by omega), hc i 2 x hx (by omega), hc i 3 x hx (by omega), hc i 4 x hx (by omega), hc i 5 x hx (by omega), hc i 6 x hx (by omega)⟩
theorem own_slice {w : World} {base n size : Nat} {e : TypeId} {v : Value} {xs : List Value} (h : w.ownsRow base e size v n xs) : ∃ a c, v = .slice a n c := by
  rcases h.2 with ⟨rfl, rfl⟩ | ⟨g, cap, cur, rfl, _⟩
  · exact ⟨none, 0, rfl⟩
  · exact ⟨_, _, rfl⟩
/-- that each thing's rows are slices of so many -/
def Slc (G : List (Th × Lay)) : Prop := ∀ (i : Nat) (x : Th × Lay), G[i]? = some x → (∃ a c, x.2.b = .slice a x.1.bytes.length c) ∧ (∃ a c, x.2.i = .slice a x.1.items.length c) ∧ (∃ a c, x.2.p = .slice a x.1.pairs.length c) ∧ x.1.bytes.length ≤ 65535 ∧ x.1.items.length ≤ 65535
theorem Rep.slc {O : Nat → Prop} {w : World} {s : Nat} {fr : Int} {G : List (Th × Lay)} (h : Rep O w s fr G) : Slc G := fun i x hx =>
  ⟨own_slice (h.row i x hx).rb, own_slice (h.row i x hx).ri, own_slice (h.row i x hx).rp, (h.row i x hx).nb, (h.row i x hx).ni⟩
theorem lenOf_length (t : Th) : lenOf t.kind t.bytes.length t.items.length = t.length := rfl
theorem length_le {t : Th} (h1 : t.bytes.length ≤ 65535) (h2 : t.items.length ≤ 65535) : t.length ≤ 65535 := by unfold Th.length; split <;> (try split) <;> omega
/-- an object in a box -/
def obC (o : Ob) : Obj := .cells #[.int .i64 o.kind, .bool o.exec, .int .i64 o.acc, .int .i64 o.n, .string o.name, .int .i64 o.ref, .int .i64 o.frm, .int .i64 o.len] 35
theorem told_no {w : World} {s : Nat} {tv : Value} {G : List (Th × Lay)} (h : Vw w s tv G) (o : Ob) (k : Int) (hr : o.kind = k → ¬ (1 ≤ o.ref ∧ o.ref ≤ G.length)) :
    Calls Tryd.prog 28 #[.pointer (some ⟨s, 0, none⟩), o.val, .int .i64 k] w fun e w' => e = .returned (.pointer none) ∧ Below w.heap.size w w' := by
  have hV := h.below (below1 w (obC o))
  clear h
  unfold Ob.val
  by_cases hk : o.kind = k
  · have HB1 := Lib.hid (byRef_no hV (hr hk))
    obtain ⟨kd, ex, ac, n, nm, rf, fm, ln⟩ := o
    unfold obC at HB1
    simp only at hk HB1 ⊢
    subst hk
    clear hV hr
    go_enter Tryd.func28, Tryd.ntmps28
    go_wp2_with fail
    refine HB1.out.mono ?_; rintro e w1 ⟨rfl, hb⟩
    have HB := Lib.hid (bthen (below1 w _) hb)
    clear hb
    go_wp2_with fail
    go_quiet (fail)
    go_wp2_with fail
    go_ret
    exact ⟨rfl, below_draw HB.out _⟩
  · have hkn : (o.kind != k) = true := by simp [hk]
    clear hk hV hr
    go_enter Tryd.func28, Tryd.ntmps28
    go_wp2_with fail
    go_ret
    exact ⟨rfl, below1 _ _⟩
set_option maxHeartbeats 4000000 in
theorem told_yes {w : World} {s i : Nat} {tv : Value} {G : List (Th × Lay)} {x : Th × Lay} (h : Vw w s tv G) (hS : Slc G) (hx : G[i]? = some x) (k : Int) (ex : Bool) (ac n : Int) (nm : ByteArray) (fm ln : Int) (c : Bool) (hc : (decide (x.1.kind = k) && liesB fm ln x.1.length) = c) :
    Calls Tryd.prog 28 #[.pointer (some ⟨s, 0, none⟩), .agg #[.int .i64 k, .bool ex, .int .i64 ac, .int .i64 n, .string nm, .int .i64 ((i : Int) + 1), .int .i64 fm, .int .i64 ln], .int .i64 k] w
      fun e w' => e = .returned (thP tv (if c = true then some i else none)) ∧ Below w.heap.size w w' := by
  have hV := h.below (below1 w (obC ⟨k, ex, ac, n, nm, (i : Int) + 1, fm, ln⟩))
  have HV := Lib.hid hV
  have hiG : i < G.length := (List.getElem?_eq_some_iff.1 hx).1
  have hB1 := byRef_yes hV hiG
  rw [show ((i + 1 : Nat) : Int) = (i : Int) + 1 by omega] at hB1
  have HB1 := Lib.hid hB1
  unfold obC at HB1 HV
  obtain ⟨⟨ab, cb, eb⟩, ⟨ai, ci, ei⟩, _, nb, ni⟩ := hS i x hx
  have hlen := length_le nb ni
  have HHX := Lib.hid hx
  have HC := Lib.hid hc
  clear h hV hB1 hiG hx hc hS nb ni
  go_enter Tryd.func28, Tryd.ntmps28
  go_wp2_with fail
  refine HB1.out.mono ?_; rintro e w1 ⟨rfl, hb⟩
  have hv := HV.out.below hb
  have hbox : ∀ f, w1.cell? ⟨w.heap.size, f, none⟩ = (#[.int .i64 k, .bool ex, .int .i64 ac, .int .i64 n, .string nm, .int .i64 ((i : Int) + 1), .int .i64 fm, .int .i64 ln] : Array Value)[f]? := fun f => by
    rw [hb.cell (by simp)]; simp [World.cell?_alloc_new]
  have hb6 : w1.cell? ⟨w.heap.size, 6, none⟩ = some (.int .i64 fm) := hbox 6
  have hb7 : w1.cell? ⟨w.heap.size, 7, none⟩ = some (.int .i64 ln) := hbox 7
  have HB := Lib.hid (bthen (below1 w _) hb)
  clear hb hbox
  rcases hv.row with ⟨_, rfl⟩ | ⟨g, cap, rfl, hg, hc⟩
  · have := HHX.out; simp at this
  · obtain ⟨t0, t1, t2, t3, _⟩ := thC_len HHX.out hc
    rw [eb] at t2
    rw [ei] at t3
    have HL := Lib.hid (fun q => length_at (w := w1.drewN q) (g := g) (o := i * 7) t1 t2 t3)
    have HLi := Lib.hid (fun q => lies_at fm ln x.1.length hlen (w1.drewN q))
    simp only [lenOf_length] at HL
    simp only [blkOf]
    clear hc hv t0 t2 t3 eb ei
    by_cases hxk : x.1.kind = k
    · rw [hxk] at t1
      cases hl : liesB fm ln x.1.length with
      | true =>
        rw [hl] at HLi HC
        obtain rfl : c = true := by rw [← HC.out]; simp [hxk]
        clear hl hxk HC
        go_wp2_with fail
        go_quiet (first | (go_at_call 40; exact Calls.quiet_of_same (HL.out _)) | (go_at_call 42; exact Calls.quiet_of_same (HLi.out _)))
        go_wp2_with fail
        go_ret
        exact ⟨rfl, below_draw HB.out _⟩
      | false =>
        rw [hl] at HLi HC
        obtain rfl : c = false := by rw [← HC.out]; simp
        clear hl hxk HC
        go_wp2_with fail
        go_quiet (first | (go_at_call 40; exact Calls.quiet_of_same (HL.out _)) | (go_at_call 42; exact Calls.quiet_of_same (HLi.out _)))
        go_wp2_with fail
        go_ret
        exact ⟨rfl, below_draw HB.out _⟩
    · have hxn : (x.1.kind != k) = true := by simp [hxk]
      obtain rfl : c = false := by rw [← HC.out]; simp [hxk]
      clear hxk HC
      go_wp2_with fail
      go_quiet (fail)
      go_wp2_with fail
      go_ret
      exact ⟨rfl, below_draw HB.out _⟩
theorem told_at {w : World} {s : Nat} {tv : Value} {G : List (Th × Lay)} (h : Vw w s tv G) (hS : Slc G) (o : Ob) (k : Int) :
    Calls Tryd.prog 28 #[.pointer (some ⟨s, 0, none⟩), o.val, .int .i64 k] w fun e w' => e = .returned (thP tv (tld G o k)) ∧ Below w.heap.size w w' := by
  by_cases hr : o.kind = k → ¬ (1 ≤ o.ref ∧ o.ref ≤ G.length)
  · have ht : tld G o k = none := by
      unfold tld
      split
      · rename_i hk
        rw [List.getElem?_eq_none (by have := hr hk.1; omega)]
      · rfl
    rw [ht]
    exact told_no h o k hr
  · obtain ⟨hk, hr⟩ := Classical.not_imp.1 hr
    have hr2 := Classical.not_not.1 hr
    obtain ⟨i, hi⟩ : ∃ i : Nat, o.ref = (i : Int) + 1 := ⟨o.ref.toNat - 1, by omega⟩
    have hiG : i < G.length := by omega
    have hx := List.getElem?_eq_getElem hiG
    have ht : tld G o k = if (decide (G[i].1.kind = k) && liesB o.frm o.len G[i].1.length) = true then some i else none := by
      unfold tld
      rw [if_pos ⟨hk, hr2.1⟩, show o.ref.toNat - 1 = i by omega, hx]
      simp
    rw [ht]
    have := told_yes h hS hx k o.exec o.acc o.n o.name o.frm o.len _ rfl
    unfold Ob.val
    rw [hk, hi]
    exact this
end Go.Proofs.YtigjkkmnellanaaDoor
