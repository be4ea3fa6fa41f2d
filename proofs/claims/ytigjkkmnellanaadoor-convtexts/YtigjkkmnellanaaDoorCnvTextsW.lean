/-
  The law ConvTexts, walked.
-/
import Derived.Test.YtigjkkmnellanaaDoorCnvBld
import Derived.Laws.BytesArg
namespace Go.Proofs.YtigjkkmnellanaaDoor
open Go.RowKit
open St
open Col
open Mm
open Fx Dc
namespace Cn
theorem valid_nil (o : Ob) (w : World) : Calls Tryd.prog 16 #[.pointer none, o.val] w fun e w' => e = .returned (.bool false) ∧ Below w.heap.size w w' := by
  have HB := Lib.hid (below1 w (obC o))
  unfold obC at HB
  unfold Ob.val
  go_enter Tryd.func16, Tryd.ntmps16
  go_wp2_with fail
  go_ret
  exact ⟨rfl, HB.out⟩
theorem textC_nil (o : Ob) (w : World) : Calls Tryd.prog 7 #[.pointer none, o.val] w fun e w' => e = .returned (.slice none 0 0) ∧ Below w.heap.size w w' := by
  have HV := Lib.hid (valid_nil o (w.alloc (obC o)))
  have HB := Lib.hid (below1 w (obC o))
  unfold obC Ob.val at HV
  unfold obC at HB
  unfold Ob.val
  go_enter Tryd.func7, Tryd.ntmps7
  go_wp2_with fail
  refine HV.out.mono ?_; rintro e w2 ⟨rfl, hb⟩
  have HB2 := Lib.hid (bthen HB.out hb)
  clear hb
  go_wp2_with fail
  go_ret
  exact ⟨rfl, HB2.out⟩
def oFive : Ob := ⟨1, false, 0, -5, ⟨#[]⟩, 0, 0, 0⟩
theorem txt_five : txtL [] oFive = [45, 53] := by decide +kernel
set_option maxRecDepth 100000 in
theorem answers10 (w : World) (ht : Tab w) : Calls Tryd.prog 6 #[] w fun e w' => e = .returned (.bool true) ∧ Below w.heap.size w w' := by
  have HN := Lib.hid (new_at 50 w (by decide) (by decide))
  have HT := Lib.hid (fun w2 (hb : Below w.heap.size w w2) => Tab.below ht hb)
  clear ht
  go_enter Tryd.func6, Tryd.ntmps6
  go_wp2_with fail
  refine HN.out.mono ?_; rintro e w1 ⟨rfl, hr1, hb1⟩
  have hX := textC_at hr1 oFive (HT.out w1 hb1) (by decide)
  rw [txt_five] at hX
  have HX := Lib.hid hX
  have HB1 := Lib.hid hb1
  unfold oFive Ob.val at HX
  clear hr1 hb1 hX
  go_wp2_with fail
  refine HX.out.mono ?_; rintro e w2 ⟨hb2, hor⟩
  have HB2 := Lib.hid (bthen HB1.out hb2)
  rcases hor with ⟨hno, _⟩ | ⟨B, c, rfl, hB, hlt, hs⟩
  · cases hno
  · have hcv := src_conv (c := c) hs
    clear hb2 hs hB hlt
    simp only [List.length_cons, List.length_nil, Nat.zero_add, Nat.reduceAdd] at hcv ⊢
    go_wp2_with fail
    go_ret
    exact ⟨rfl, HB2.out⟩
/-- both texts are one -/
theorem texts_same {t : Tg} {G : List (Th × Lay)} {o : Ob} {v : Vl} {W : World} (h : Match t G o v W) (hb : t.bad = false) (hn : -9223372036854775808 ≤ t.n ∧ t.n ≤ 9223372036854775807) :
    (-9223372036854775808 ≤ o.n ∧ o.n ≤ 9223372036854775807) ∧ ∀ w', Below W.heap.size W w' → Calls Tryd.prog 8 #[v.val] w' (StrB (txtL G o) w') := by
  have hb6 : t.text.data.toList.length ≤ 500 := by
    have := (Tg.good hb).2.2.2.2.1
    have := of_decide_eq_false this
    rw [← size_list]; omega
  rcases h with ⟨hk, rfl, ⟨l, rfl⟩, S, rfl, hS⟩ | ⟨hk, h0, h20, rfl, ⟨l, rfl⟩, hv⟩ | ⟨hk, h0, h20, rfl, ⟨l, rfl⟩, hv⟩ | ⟨h6, h7, h8, rfl, rfl, rfl⟩
  · refine ⟨⟨by simp, by simp⟩, fun w' hbw => ?_⟩
    have e : txtL [(⟨6, t.text.data.toList, [], [], 0, 0⟩, l)] ⟨6, t.exec, t.acc, 0, ⟨#[]⟩, 1, 0, t.text.size⟩ = t.text.data.toList := by
      have ht : tld [(⟨6, t.text.data.toList, [], [], 0, 0⟩, l)] ⟨6, t.exec, t.acc, 0, ⟨#[]⟩, 1, 0, t.text.size⟩ 6 = some 0 := by
        simp [tld, Th.length, liesB]
      unfold txtL valid bytesR
      simp [ht]
      rw [List.take_of_length_le]
      rw [← size_list]; exact Nat.le_refl _
    rw [e]
    exact refText_str (hS.below hbw) _ _ _ _ (by omega)
  · refine ⟨⟨by simp, by simp⟩, fun w' _ => ?_⟩
    obtain ⟨k, hk2⟩ : ∃ k : Nat, t.n = k := ⟨t.n.toNat, by omega⟩
    have e : txtL [(⟨7, [], List.replicate t.n.toNat nul, [], 0, 0⟩, l)] ⟨7, t.exec, t.acc, 0, ⟨#[]⟩, 1, 0, t.n⟩ = sNone := by
      have ht : tld [(⟨7, [], List.replicate t.n.toNat nul, [], 0, 0⟩, l)] ⟨7, t.exec, t.acc, 0, ⟨#[]⟩, 1, 0, t.n⟩ 7 = some 0 := by
        rw [hk2]
        simp [tld, Th.length, liesB]
      unfold txtL valid
      simp [ht]
    have e2 : vtxt v [] = sNone := by unfold vtxt; simp [hv]
    rw [e, ← e2]
    exact refText_plain w' v (by omega) (fun h1 => by omega)
  · refine ⟨⟨by simp, by simp⟩, fun w' _ => ?_⟩
    have e : txtL [(⟨8, [], [], [], t.n, t.acc⟩, l)] ⟨8, t.exec, 0, 0, ⟨#[]⟩, 1, 0, 0⟩ = sNone := by
      have ht : tld [(⟨8, [], [], [], t.n, t.acc⟩, l)] ⟨8, t.exec, 0, 0, ⟨#[]⟩, 1, 0, 0⟩ 8 = some 0 := by
        simp [tld, Th.length, liesB]
      unfold txtL valid
      simp [ht]
    have e2 : vtxt v [] = sNone := by unfold vtxt; simp [hv]
    rw [e, ← e2]
    exact refText_plain w' v (by omega) (fun h1 => by omega)
  · refine ⟨hn, fun w' _ => ?_⟩
    have e : txtL [] ⟨t.kind, t.exec, 0, t.n, t.name, 0, 0, 0⟩ = vtxt ⟨t.kind, t.exec, 0, t.n, t.name, .pointer none, .pointer none, .pointer none, 0, 0⟩ [] := by
      unfold txtL vtxt valid
      simp only [h6, h7, h8, or_self, if_false, Bool.true_eq_false]
    rw [e]
    exact refText_plain w' _ h6 (fun _ => hn)
/-- an operation that reads is taken first -/
theorem take_l {P : Program} {l : List Oper} {Q : Exit → Act → World → Prop} {md : Region.Mode} {S : World → Prop} {i : Nat} {oi : Oper} {v : Value} {fuel : Nat} {listed : Array Bool} {a : Act} {w : World} (hi : l[i]? = some oi)
    (hs : Region.noSelect l.toArray = true) (hf : Region.free md l.toArray listed i = true) (hr : (Region.ready md l.toArray listed).contains i = true)
    (hQ : ∀ c a w, Q (.panic c) (a.put oi.dst v) w → Q (.panic c) a w) (hy : YieldsIf P l.toArray S oi v a) (hS : S w)
    (h : wpAnyH P md l.toArray Q S fuel (listed.setIfInBounds i true) (a.put oi.dst v) w) : wpAnyH P md l.toArray Q S (fuel + 1) listed a w :=
  wpAnyH_take (by simpa using hi) hs hf hr hQ hy hS h
/-- an operation that comes up next -/
theorem cons_l {P : Program} {l : List Oper} {Q : Exit → Act → World → Prop} {md : Region.Mode} {S : World → Prop} {fuel : Nat} {listed : Array Bool} {a : Act} {w : World} {i : Nat} {o : Oper} {rs : List Nat} (ho : l[i]? = some o)
    (h : ∀ K' : Act → World → Prop, Shut (∀ a w, S w → (S w → wpAnyH P md l.toArray Q S fuel (listed.setIfInBounds i true) a w) → K' a w) → if Region.wanted o (yielded l.toArray a.tmps) = true then Oper.wp P o a w K' Q else K' (a.put o.dst undef) w)
    (hs : AllReadyH P md l.toArray Q S fuel listed a w rs) : AllReadyH P md l.toArray Q S fuel listed a w (i :: rs) := AllReadyH.cons (by simpa using ho) h hs
/-- bytes that are a string then and later -/
def RowC (l : List UInt8) (w : World) (e : Ending) (w' : World) : Prop :=
  Below w.heap.size w w' ∧ ∃ p c, e = .returned (.slice p l.length c) ∧ ∀ w2, Below w'.heap.size w' w2 → (convert 44 9 (.slice p l.length c)).run Tryd.prog w2 = .ok (.string ⟨l.toArray⟩) w2
theorem RowT.rowC {l : List UInt8} {w w' : World} {e : Ending} (h : RowT l w e w') : RowC l w e w' := by
  obtain ⟨hb, ⟨rfl, rfl⟩ | ⟨B, c, rfl, _, _, hs⟩⟩ := h
  · exact ⟨hb, none, 0, rfl, fun w2 _ => run_convert_bytes_nil (P := Tryd.prog) (w := w2) 44 5 Tryd.underlying44 Tryd.underlying5 0 0 9 Tryd.underlying9⟩
  · exact ⟨hb, _, c, rfl, fun w2 h2 => src_conv (hs.below h2)⟩
theorem keep18B {W W' : World} {b c : Nat} {u0 u1 u2 u3 u4 u5 u6 u7 k0 k1 k2 k3 k4 k5 k6 k7 k8 k9 : Value} (hb : Below W.heap.size W W') (h : W.cell? ⟨b, 0, none⟩ = some u0 ∧ W.cell? ⟨b, 1, none⟩ = some u1 ∧ W.cell? ⟨b, 2, none⟩ = some u2 ∧ W.cell? ⟨b, 3, none⟩ = some u3 ∧ W.cell? ⟨b, 4, none⟩ = some u4 ∧ W.cell? ⟨b, 5, none⟩ = some u5 ∧ W.cell? ⟨b, 6, none⟩ = some u6 ∧ W.cell? ⟨b, 7, none⟩ = some u7 ∧ W.cell? ⟨c, 0, none⟩ = some k0 ∧ W.cell? ⟨c, 1, none⟩ = some k1 ∧ W.cell? ⟨c, 2, none⟩ = some k2 ∧ W.cell? ⟨c, 3, none⟩ = some k3 ∧ W.cell? ⟨c, 4, none⟩ = some k4 ∧ W.cell? ⟨c, 5, none⟩ = some k5 ∧ W.cell? ⟨c, 6, none⟩ = some k6 ∧ W.cell? ⟨c, 7, none⟩ = some k7 ∧ W.cell? ⟨c, 8, none⟩ = some k8 ∧ W.cell? ⟨c, 9, none⟩ = some k9) : W'.cell? ⟨b, 0, none⟩ = some u0 ∧ W'.cell? ⟨b, 1, none⟩ = some u1 ∧ W'.cell? ⟨b, 2, none⟩ = some u2 ∧ W'.cell? ⟨b, 3, none⟩ = some u3 ∧ W'.cell? ⟨b, 4, none⟩ = some u4 ∧ W'.cell? ⟨b, 5, none⟩ = some u5 ∧ W'.cell? ⟨b, 6, none⟩ = some u6 ∧ W'.cell? ⟨b, 7, none⟩ = some u7 ∧ W'.cell? ⟨c, 0, none⟩ = some k0 ∧ W'.cell? ⟨c, 1, none⟩ = some k1 ∧ W'.cell? ⟨c, 2, none⟩ = some k2 ∧ W'.cell? ⟨c, 3, none⟩ = some k3 ∧ W'.cell? ⟨c, 4, none⟩ = some k4 ∧ W'.cell? ⟨c, 5, none⟩ = some k5 ∧ W'.cell? ⟨c, 6, none⟩ = some k6 ∧ W'.cell? ⟨c, 7, none⟩ = some k7 ∧ W'.cell? ⟨c, 8, none⟩ = some k8 ∧ W'.cell? ⟨c, 9, none⟩ = some k9 := by
  obtain ⟨a0, a1, a2, a3, a4, a5, a6, a7, b0, b1, b2, b3, b4, b5, b6, b7, b8, b9⟩ := h
  exact ⟨(hb.cell (World.block_lt_of_cell? W _ a0)).trans a0, (hb.cell (World.block_lt_of_cell? W _ a1)).trans a1, (hb.cell (World.block_lt_of_cell? W _ a2)).trans a2, (hb.cell (World.block_lt_of_cell? W _ a3)).trans a3, (hb.cell (World.block_lt_of_cell? W _ a4)).trans a4, (hb.cell (World.block_lt_of_cell? W _ a5)).trans a5, (hb.cell (World.block_lt_of_cell? W _ a6)).trans a6, (hb.cell (World.block_lt_of_cell? W _ a7)).trans a7, (hb.cell (World.block_lt_of_cell? W _ b0)).trans b0, (hb.cell (World.block_lt_of_cell? W _ b1)).trans b1, (hb.cell (World.block_lt_of_cell? W _ b2)).trans b2, (hb.cell (World.block_lt_of_cell? W _ b3)).trans b3, (hb.cell (World.block_lt_of_cell? W _ b4)).trans b4, (hb.cell (World.block_lt_of_cell? W _ b5)).trans b5, (hb.cell (World.block_lt_of_cell? W _ b6)).trans b6, (hb.cell (World.block_lt_of_cell? W _ b7)).trans b7, (hb.cell (World.block_lt_of_cell? W _ b8)).trans b8, (hb.cell (World.block_lt_of_cell? W _ b9)).trans b9⟩
set_option maxRecDepth 100000 in
set_option maxHeartbeats 1000000 in
theorem texts_walk (t : Tg) (hn : -9223372036854775808 ≤ t.n ∧ t.n ≤ 9223372036854775807) (w : World) (ht : Tab w) :
    Calls Tryd.prog 3 #[t.val] w fun e w' => e = .returned (.bool true) ∧ Below w.heap.size w w' := by
  have HT := Lib.hid (fun w2 (hb : Below w.heap.size w w2) => Tab.below ht hb)
  have HA := Lib.hid (fun w2 (hb : Below w.heap.size w w2) => answers10 w2 (Tab.below ht hb))
  have H1 := Lib.hid (below1 w (tgC t))
  have hs1 : (w.alloc (tgC t)).heap.size = w.heap.size + 1 := by simp
  have hn1 := new_at 500 (w.alloc (tgC t)) (by decide) (by decide)
  rw [hs1] at hn1
  have HN := Lib.hid hn1
  unfold tgC at HN
  clear hs1 hn1
  have HNn := Lib.hid hn
  unfold Tg.val
  clear ht hn
  go_enter Tryd.func3, Tryd.ntmps3
  go_wp2_with fail
  refine HN.out.mono ?_; rintro e w1 ⟨rfl, hr1, hb1⟩
  have hr2 := hr1.below (below1 w1 (memC 500 0 (.slice none 0 0) (.slice none 0 0) (.slice none 0 0) 0))
  have hM2 : (w1.alloc (memC 500 0 (.slice none 0 0) (.slice none 0 0) (.slice none 0 0) 0)).heap[w1.heap.size]? = _ := heap_alloc_new _ _
  have hb0 : Below w.heap.size w w1 := H1.out.trans (hb1.mono (by omega))
  have hB2 := bthen hb0 (below1 w1 (memC 500 0 (.slice none 0 0) (.slice none 0 0) (.slice none 0 0) 0))
  have hltw : w.heap.size + 1 < w1.heap.size := hr1.lt
  have HBd := Lib.hid (build_at hr2 hM2 (fun e => by omega) t)
  have htc : w1.heap[w.heap.size]? = some (tgC t) := (hb1.block _ (by omega)).trans (heap_alloc_new w _)
  have HB2 := Lib.hid hB2
  unfold memC Tg.val at HBd
  unfold memC at HB2
  unfold tgC at htc
  have t0 : w1.cell? ⟨w.heap.size, 0, none⟩ = some (.int .i64 t.kind) := blk_cell htc 0
  have t1 : w1.cell? ⟨w.heap.size, 1, none⟩ = some (.int .i64 t.n) := blk_cell htc 1
  have t2 : w1.cell? ⟨w.heap.size, 2, none⟩ = some (.int .i64 t.acc) := blk_cell htc 2
  have t3 : w1.cell? ⟨w.heap.size, 3, none⟩ = some (.string t.name) := blk_cell htc 3
  have t4 : w1.cell? ⟨w.heap.size, 4, none⟩ = some (.string t.text) := blk_cell htc 4
  have t5 : w1.cell? ⟨w.heap.size, 5, none⟩ = some (.bool t.exec) := blk_cell htc 5
  have HL := Lib.hid hltw
  have hlt0 : w.heap.size < w1.heap.size := by omega
  clear hr1 hb1 hb0 hr2 hM2 hB2 htc hltw HN H1
  go_wp2_with fail
  refine HBd.out.mono ?_; rintro e w3 ⟨o, v, ok, rfl, ⟨ps, pa, pd, ep1, ep2, ep3⟩, hF3, hok⟩
  have hB3 : Below w.heap.size w w3 := HB2.out.trans (hF3.below HB2.out.size (fun k hk e => by
    have := HL.out
    rcases e with e | e
    · omega
    · omega))
  clear t0 t1 t2 t3 t4 t5 HBd hF3
  have HOk := Lib.hid hok
  have HB3 := Lib.hid hB3
  unfold Ob.val Vl.val
  rw [ep1, ep2, ep3]
  have HP := Lib.hid (And.intro ep1 (And.intro ep2 ep3))
  clear hok hB3 ep1 ep2 ep3
  go_upto_region 4 with fail
  have hbo := (below1 w3 (.cells #[.int .i64 o.kind, .bool o.exec, .int .i64 o.acc, .int .i64 o.n, .string o.name, .int .i64 o.ref, .int .i64 o.frm, .int .i64 o.len] 35))
  have e4 : (w3.alloc (.cells #[.int .i64 o.kind, .bool o.exec, .int .i64 o.acc, .int .i64 o.n, .string o.name, .int .i64 o.ref, .int .i64 o.frm, .int .i64 o.len] 35)).heap.size = w3.heap.size + 1 := by simp
  have hbv := (below1 (w3.alloc (.cells #[.int .i64 o.kind, .bool o.exec, .int .i64 o.acc, .int .i64 o.n, .string o.name, .int .i64 o.ref, .int .i64 o.frm, .int .i64 o.len] 35)) (.cells #[.int .i64 v.kind, .bool v.exec, .int .i64 v.acc, .int .i64 v.n, .string v.name, .pointer ps, .pointer pa, .pointer pd, .int .i64 v.frm, .int .i64 v.len] 40))
  have ho4 := (hbv.block w3.heap.size (by rw [e4]; omega)).trans (heap_alloc_new w3 (.cells #[.int .i64 o.kind, .bool o.exec, .int .i64 o.acc, .int .i64 o.n, .string o.name, .int .i64 o.ref, .int .i64 o.frm, .int .i64 o.len] 35))
  have hv4 := heap_alloc_new (w3.alloc (.cells #[.int .i64 o.kind, .bool o.exec, .int .i64 o.acc, .int .i64 o.n, .string o.name, .int .i64 o.ref, .int .i64 o.frm, .int .i64 o.len] 35)) (.cells #[.int .i64 v.kind, .bool v.exec, .int .i64 v.acc, .int .i64 v.n, .string v.name, .pointer ps, .pointer pa, .pointer pd, .int .i64 v.frm, .int .i64 v.len] 40)
  have hb34 := bthen hbo hbv
  rw [e4] at hv4
  generalize (w3.alloc (.cells #[.int .i64 o.kind, .bool o.exec, .int .i64 o.acc, .int .i64 o.n, .string o.name, .int .i64 o.ref, .int .i64 o.frm, .int .i64 o.len] 35)).alloc (.cells #[.int .i64 v.kind, .bool v.exec, .int .i64 v.acc, .int .i64 v.n, .string v.name, .pointer ps, .pointer pa, .pointer pd, .int .i64 v.frm, .int .i64 v.len] 40) = W4 at *
  obtain ⟨x0, x1, x2, x3, x4, x5, x6, x7⟩ := cellsOb ho4
  obtain ⟨y0, y1, y2, y3, y4, y5, y6, y7, y8, y9, _⟩ := cells10 hv4
  have HB4 := Lib.hid (bthen HB3.out hb34)
  have H34 := Lib.hid hb34
  clear hbo e4 hbv ho4 hv4 hb34
  have sI := And.intro x0 (And.intro x1 (And.intro x2 (And.intro x3 (And.intro x4 (And.intro x5 (And.intro x6 (And.intro x7 (And.intro y0 (And.intro y1 (And.intro y2 (And.intro y3 (And.intro y4 (And.intro y5 (And.intro y6 (And.intro y7 (And.intro y8 y9))))))))))))))))
  have sD : W4.drew.cell? ⟨w3.heap.size, 0, none⟩ = some (.int .i64 o.kind) ∧ W4.drew.cell? ⟨w3.heap.size, 1, none⟩ = some (.bool o.exec) ∧ W4.drew.cell? ⟨w3.heap.size, 2, none⟩ = some (.int .i64 o.acc) ∧ W4.drew.cell? ⟨w3.heap.size, 3, none⟩ = some (.int .i64 o.n) ∧ W4.drew.cell? ⟨w3.heap.size, 4, none⟩ = some (.string o.name) ∧ W4.drew.cell? ⟨w3.heap.size, 5, none⟩ = some (.int .i64 o.ref) ∧ W4.drew.cell? ⟨w3.heap.size, 6, none⟩ = some (.int .i64 o.frm) ∧ W4.drew.cell? ⟨w3.heap.size, 7, none⟩ = some (.int .i64 o.len) ∧ W4.drew.cell? ⟨w3.heap.size + 1, 0, none⟩ = some (.int .i64 v.kind) ∧ W4.drew.cell? ⟨w3.heap.size + 1, 1, none⟩ = some (.bool v.exec) ∧ W4.drew.cell? ⟨w3.heap.size + 1, 2, none⟩ = some (.int .i64 v.acc) ∧ W4.drew.cell? ⟨w3.heap.size + 1, 3, none⟩ = some (.int .i64 v.n) ∧ W4.drew.cell? ⟨w3.heap.size + 1, 4, none⟩ = some (.string v.name) ∧ W4.drew.cell? ⟨w3.heap.size + 1, 5, none⟩ = some (.pointer ps) ∧ W4.drew.cell? ⟨w3.heap.size + 1, 6, none⟩ = some (.pointer pa) ∧ W4.drew.cell? ⟨w3.heap.size + 1, 7, none⟩ = some (.pointer pd) ∧ W4.drew.cell? ⟨w3.heap.size + 1, 8, none⟩ = some (.int .i64 v.frm) ∧ W4.drew.cell? ⟨w3.heap.size + 1, 9, none⟩ = some (.int .i64 v.len) := sI
  have HNl := Lib.hid (fun w2 => textC_nil o w2)
  unfold Ob.val at HNl
  cases ok with
  | false =>
    as_aux_lemma =>
    clear x0 x1 x2 x3 x4 x5 x6 x7 y0 y1 y2 y3 y4 y5 y6 y7 y8 y9
    refine wp_region_held_drew (S := fun w' => w'.cell? ⟨w3.heap.size, 0, none⟩ = some (.int .i64 o.kind) ∧ w'.cell? ⟨w3.heap.size, 1, none⟩ = some (.bool o.exec) ∧ w'.cell? ⟨w3.heap.size, 2, none⟩ = some (.int .i64 o.acc) ∧ w'.cell? ⟨w3.heap.size, 3, none⟩ = some (.int .i64 o.n) ∧ w'.cell? ⟨w3.heap.size, 4, none⟩ = some (.string o.name) ∧ w'.cell? ⟨w3.heap.size, 5, none⟩ = some (.int .i64 o.ref) ∧ w'.cell? ⟨w3.heap.size, 6, none⟩ = some (.int .i64 o.frm) ∧ w'.cell? ⟨w3.heap.size, 7, none⟩ = some (.int .i64 o.len) ∧ w'.cell? ⟨w3.heap.size + 1, 0, none⟩ = some (.int .i64 v.kind) ∧ w'.cell? ⟨w3.heap.size + 1, 1, none⟩ = some (.bool v.exec) ∧ w'.cell? ⟨w3.heap.size + 1, 2, none⟩ = some (.int .i64 v.acc) ∧ w'.cell? ⟨w3.heap.size + 1, 3, none⟩ = some (.int .i64 v.n) ∧ w'.cell? ⟨w3.heap.size + 1, 4, none⟩ = some (.string v.name) ∧ w'.cell? ⟨w3.heap.size + 1, 5, none⟩ = some (.pointer ps) ∧ w'.cell? ⟨w3.heap.size + 1, 6, none⟩ = some (.pointer pa) ∧ w'.cell? ⟨w3.heap.size + 1, 7, none⟩ = some (.pointer pd) ∧ w'.cell? ⟨w3.heap.size + 1, 8, none⟩ = some (.int .i64 v.frm) ∧ w'.cell? ⟨w3.heap.size + 1, 9, none⟩ = some (.int .i64 v.len)) (by kernel_rfl) sD (fun _ => ?_)
    refine wpAnyH_ready (rs := [0]) (by kernel_rfl) (by simp) ?_
    refine cons_l rfl (fun K1 hK1 => ?_) AllReadyH.nil
    go_simp
    refine (HA.out _ (below_draw HB4.out 1)).mono ?_; rintro e w5 ⟨rfl, hb5⟩
    have HB5 := Lib.hid (bthen (below_draw HB4.out 1) hb5)
    have sI5 := keep18B hb5 sD
    clear hb5
    refine hK1.out _ _ sI5 (fun _ => ?_)
    clear hK1 K1 sD sI
    refine take_l (i := 1) (v := ?_) rfl (by kernel_rfl) (by kernel_rfl) (by kernel_rfl) (fun _ _ _ h => h) (Or.inl ⟨by rfl, ?_⟩) (by assumption) ?_
    rotate_left
    · intro wq hSw; obtain ⟨x0, x1, x2, x3, x4, x5, x6, x7, y0, y1, y2, y3, y4, y5, y6, y7, y8, y9⟩ := hSw; go_simp <;> with_reducible rfl
    simp only [Act.put, List.setIfInBounds_toArray, List.set_cons_zero, List.set_cons_succ]
    refine take_l (i := 2) (v := ?_) rfl (by kernel_rfl) (by kernel_rfl) (by kernel_rfl) (fun _ _ _ h => h) (Or.inl ⟨by rfl, ?_⟩) (by assumption) ?_
    rotate_left
    · intro wq hSw; obtain ⟨x0, x1, x2, x3, x4, x5, x6, x7, y0, y1, y2, y3, y4, y5, y6, y7, y8, y9⟩ := hSw; go_simp <;> with_reducible rfl
    simp only [Act.put, List.setIfInBounds_toArray, List.set_cons_zero, List.set_cons_succ]
    refine take_l (i := 3) (v := ?_) rfl (by kernel_rfl) (by kernel_rfl) (by kernel_rfl) (fun _ _ _ h => h) (Or.inl ⟨by rfl, ?_⟩) (by assumption) ?_
    rotate_left
    · intro wq hSw; obtain ⟨x0, x1, x2, x3, x4, x5, x6, x7, y0, y1, y2, y3, y4, y5, y6, y7, y8, y9⟩ := hSw; go_simp <;> with_reducible rfl
    simp only [Act.put, List.setIfInBounds_toArray, List.set_cons_zero, List.set_cons_succ]
    refine take_l (i := 4) (v := ?_) rfl (by kernel_rfl) (by kernel_rfl) (by kernel_rfl) (fun _ _ _ h => h) (Or.inl ⟨by rfl, ?_⟩) (by assumption) ?_
    rotate_left
    · intro wq hSw; obtain ⟨x0, x1, x2, x3, x4, x5, x6, x7, y0, y1, y2, y3, y4, y5, y6, y7, y8, y9⟩ := hSw; go_simp <;> with_reducible rfl
    simp only [Act.put, List.setIfInBounds_toArray, List.set_cons_zero, List.set_cons_succ]
    refine take_l (i := 5) (v := undef) rfl (by kernel_rfl) (by kernel_rfl) (by kernel_rfl) (fun _ _ _ h => h) (Or.inr ⟨by rfl, rfl⟩) (by assumption) ?_
    simp only [Act.put, List.setIfInBounds_toArray, List.set_cons_zero, List.set_cons_succ]
    refine take_l (i := 6) (v := undef) rfl (by kernel_rfl) (by kernel_rfl) (by kernel_rfl) (fun _ _ _ h => h) (Or.inr ⟨by rfl, rfl⟩) (by assumption) ?_
    simp only [Act.put, List.setIfInBounds_toArray, List.set_cons_zero, List.set_cons_succ]
    refine take_l (i := 7) (v := undef) rfl (by kernel_rfl) (by kernel_rfl) (by kernel_rfl) (fun _ _ _ h => h) (Or.inr ⟨by rfl, rfl⟩) (by assumption) ?_
    simp only [Act.put, List.setIfInBounds_toArray, List.set_cons_zero, List.set_cons_succ]
    refine take_l (i := 8) (v := undef) rfl (by kernel_rfl) (by kernel_rfl) (by kernel_rfl) (fun _ _ _ h => h) (Or.inr ⟨by rfl, rfl⟩) (by assumption) ?_
    simp only [Act.put, List.setIfInBounds_toArray, List.set_cons_zero, List.set_cons_succ]
    refine take_l (i := 9) (v := undef) rfl (by kernel_rfl) (by kernel_rfl) (by kernel_rfl) (fun _ _ _ h => h) (Or.inr ⟨by rfl, rfl⟩) (by assumption) ?_
    simp only [Act.put, List.setIfInBounds_toArray, List.set_cons_zero, List.set_cons_succ]
    refine take_l (i := 10) (v := undef) rfl (by kernel_rfl) (by kernel_rfl) (by kernel_rfl) (fun _ _ _ h => h) (Or.inr ⟨by rfl, rfl⟩) (by assumption) ?_
    simp only [Act.put, List.setIfInBounds_toArray, List.set_cons_zero, List.set_cons_succ]
    refine take_l (i := 11) (v := undef) rfl (by kernel_rfl) (by kernel_rfl) (by kernel_rfl) (fun _ _ _ h => h) (Or.inr ⟨by rfl, rfl⟩) (by assumption) ?_
    simp only [Act.put, List.setIfInBounds_toArray, List.set_cons_zero, List.set_cons_succ]
    refine take_l (i := 12) (v := ?_) rfl (by kernel_rfl) (by kernel_rfl) (by kernel_rfl) (fun _ _ _ h => h) (Or.inl ⟨by rfl, ?_⟩) (by assumption) ?_
    rotate_left
    · intro wq hSw; obtain ⟨x0, x1, x2, x3, x4, x5, x6, x7, y0, y1, y2, y3, y4, y5, y6, y7, y8, y9⟩ := hSw; go_simp <;> with_reducible rfl
    simp only [Act.put, List.setIfInBounds_toArray, List.set_cons_zero, List.set_cons_succ]
    refine take_l (i := 13) (v := ?_) rfl (by kernel_rfl) (by kernel_rfl) (by kernel_rfl) (fun _ _ _ h => h) (Or.inl ⟨by rfl, ?_⟩) (by assumption) ?_
    rotate_left
    · intro wq hSw; obtain ⟨x0, x1, x2, x3, x4, x5, x6, x7, y0, y1, y2, y3, y4, y5, y6, y7, y8, y9⟩ := hSw; go_simp <;> with_reducible rfl
    simp only [Act.put, List.setIfInBounds_toArray, List.set_cons_zero, List.set_cons_succ]
    refine take_l (i := 14) (v := ?_) rfl (by kernel_rfl) (by kernel_rfl) (by kernel_rfl) (fun _ _ _ h => h) (Or.inl ⟨by rfl, ?_⟩) (by assumption) ?_
    rotate_left
    · intro wq hSw; obtain ⟨x0, x1, x2, x3, x4, x5, x6, x7, y0, y1, y2, y3, y4, y5, y6, y7, y8, y9⟩ := hSw; go_simp <;> with_reducible rfl
    simp only [Act.put, List.setIfInBounds_toArray, List.set_cons_zero, List.set_cons_succ]
    refine take_l (i := 15) (v := ?_) rfl (by kernel_rfl) (by kernel_rfl) (by kernel_rfl) (fun _ _ _ h => h) (Or.inl ⟨by rfl, ?_⟩) (by assumption) ?_
    rotate_left
    · intro wq hSw; obtain ⟨x0, x1, x2, x3, x4, x5, x6, x7, y0, y1, y2, y3, y4, y5, y6, y7, y8, y9⟩ := hSw; go_simp <;> with_reducible rfl
    simp only [Act.put, List.setIfInBounds_toArray, List.set_cons_zero, List.set_cons_succ]
    refine wpAnyH_ready (rs := [16]) (by kernel_rfl) (by simp) ?_
    refine cons_l rfl (fun K1 hK1 => ?_) AllReadyH.nil
    go_simp
    refine (HNl.out _).mono ?_; rintro e w8 ⟨rfl, hb8⟩
    have HB8 := Lib.hid (bthen HB5.out hb8)
    have sI8 := keep18B hb8 sI5
    clear hb8 sI5
    refine hK1.out _ _ sI8 (fun _ => ?_)
    clear hK1 K1
    refine take_l (i := 17) (v := ?_) rfl (by kernel_rfl) (by kernel_rfl) (by kernel_rfl) (fun _ _ _ h => h) (Or.inl ⟨by rfl, ?_⟩) (by assumption) ?_
    rotate_left
    · intro wq hSw; obtain ⟨x0, x1, x2, x3, x4, x5, x6, x7, y0, y1, y2, y3, y4, y5, y6, y7, y8, y9⟩ := hSw; go_simp <;> with_reducible rfl
    simp only [Act.put, List.setIfInBounds_toArray, List.set_cons_zero, List.set_cons_succ]
    refine take_l (i := 18) (v := ?_) rfl (by kernel_rfl) (by kernel_rfl) (by kernel_rfl) (fun _ _ _ h => h) (Or.inl ⟨by rfl, ?_⟩) (by assumption) ?_
    rotate_left
    · intro wq hSw; obtain ⟨x0, x1, x2, x3, x4, x5, x6, x7, y0, y1, y2, y3, y4, y5, y6, y7, y8, y9⟩ := hSw; go_simp <;> with_reducible rfl
    simp only [Act.put, List.setIfInBounds_toArray, List.set_cons_zero, List.set_cons_succ]
    refine take_l (i := 19) (v := ?_) rfl (by kernel_rfl) (by kernel_rfl) (by kernel_rfl) (fun _ _ _ h => h) (Or.inl ⟨by rfl, ?_⟩) (by assumption) ?_
    rotate_left
    · intro wq hSw; obtain ⟨x0, x1, x2, x3, x4, x5, x6, x7, y0, y1, y2, y3, y4, y5, y6, y7, y8, y9⟩ := hSw; go_simp <;> with_reducible rfl
    simp only [Act.put, List.setIfInBounds_toArray, List.set_cons_zero, List.set_cons_succ]
    refine take_l (i := 20) (v := ?_) rfl (by kernel_rfl) (by kernel_rfl) (by kernel_rfl) (fun _ _ _ h => h) (Or.inl ⟨by rfl, ?_⟩) (by assumption) ?_
    rotate_left
    · intro wq hSw; obtain ⟨x0, x1, x2, x3, x4, x5, x6, x7, y0, y1, y2, y3, y4, y5, y6, y7, y8, y9⟩ := hSw; go_simp <;> with_reducible rfl
    simp only [Act.put, List.setIfInBounds_toArray, List.set_cons_zero, List.set_cons_succ]
    refine wpAnyH_done (by kernel_rfl) ?_ _
    go_wp2_with fail
    go_ret
    exact ⟨rfl, HB8.out⟩
  | true =>
    obtain ⟨O', fr, G, hR, _, hbad, hm⟩ := HOk.out rfl
    obtain ⟨hno, href⟩ := texts_same hm hbad HNn.out
    have hX := fun w2 (hb : Below W4.heap.size W4 w2) => (textC_at ((hR.below H34.out).below hb) o (HT.out w2 (bthen HB4.out hb)) hno).mono (fun _ _ h => h.rowC)
    have hV := fun w2 (hb : Below w3.heap.size w3 w2) => href w2 hb
    generalize txtL G o = L at hX hV
    have HX := Lib.hid hX
    have HV := Lib.hid hV
    unfold Ob.val at HX
    unfold Vl.val at HV
    rw [HP.out.1, HP.out.2.1, HP.out.2.2] at HV
    clear hX hV hR hm hno href hbad
    as_aux_lemma =>
    clear x0 x1 x2 x3 x4 x5 x6 x7 y0 y1 y2 y3 y4 y5 y6 y7 y8 y9
    refine wp_region_held_drew (S := fun w' => w'.cell? ⟨w3.heap.size, 0, none⟩ = some (.int .i64 o.kind) ∧ w'.cell? ⟨w3.heap.size, 1, none⟩ = some (.bool o.exec) ∧ w'.cell? ⟨w3.heap.size, 2, none⟩ = some (.int .i64 o.acc) ∧ w'.cell? ⟨w3.heap.size, 3, none⟩ = some (.int .i64 o.n) ∧ w'.cell? ⟨w3.heap.size, 4, none⟩ = some (.string o.name) ∧ w'.cell? ⟨w3.heap.size, 5, none⟩ = some (.int .i64 o.ref) ∧ w'.cell? ⟨w3.heap.size, 6, none⟩ = some (.int .i64 o.frm) ∧ w'.cell? ⟨w3.heap.size, 7, none⟩ = some (.int .i64 o.len) ∧ w'.cell? ⟨w3.heap.size + 1, 0, none⟩ = some (.int .i64 v.kind) ∧ w'.cell? ⟨w3.heap.size + 1, 1, none⟩ = some (.bool v.exec) ∧ w'.cell? ⟨w3.heap.size + 1, 2, none⟩ = some (.int .i64 v.acc) ∧ w'.cell? ⟨w3.heap.size + 1, 3, none⟩ = some (.int .i64 v.n) ∧ w'.cell? ⟨w3.heap.size + 1, 4, none⟩ = some (.string v.name) ∧ w'.cell? ⟨w3.heap.size + 1, 5, none⟩ = some (.pointer ps) ∧ w'.cell? ⟨w3.heap.size + 1, 6, none⟩ = some (.pointer pa) ∧ w'.cell? ⟨w3.heap.size + 1, 7, none⟩ = some (.pointer pd) ∧ w'.cell? ⟨w3.heap.size + 1, 8, none⟩ = some (.int .i64 v.frm) ∧ w'.cell? ⟨w3.heap.size + 1, 9, none⟩ = some (.int .i64 v.len)) (by kernel_rfl) sD (fun _ => ?_)
    refine wpAnyH_ready (rs := [0]) (by kernel_rfl) (by simp) ?_
    refine cons_l rfl (fun K1 hK1 => ?_) AllReadyH.nil
    go_simp
    refine (HA.out _ (below_draw HB4.out 1)).mono ?_; rintro e w5 ⟨rfl, hb5⟩
    have HB5 := Lib.hid (bthen (below_draw (Below.refl _ _) 1) hb5 : Below W4.heap.size W4 w5)
    have sI5 := keep18B hb5 sD
    clear hb5
    refine hK1.out _ _ sI5 (fun _ => ?_)
    clear hK1 K1 sD sI
    refine take_l (i := 1) (v := ?_) rfl (by kernel_rfl) (by kernel_rfl) (by kernel_rfl) (fun _ _ _ h => h) (Or.inl ⟨by rfl, ?_⟩) (by assumption) ?_
    rotate_left
    · intro wq hSw; obtain ⟨x0, x1, x2, x3, x4, x5, x6, x7, y0, y1, y2, y3, y4, y5, y6, y7, y8, y9⟩ := hSw; go_simp <;> with_reducible rfl
    simp only [Act.put, List.setIfInBounds_toArray, List.set_cons_zero, List.set_cons_succ]
    refine take_l (i := 2) (v := ?_) rfl (by kernel_rfl) (by kernel_rfl) (by kernel_rfl) (fun _ _ _ h => h) (Or.inl ⟨by rfl, ?_⟩) (by assumption) ?_
    rotate_left
    · intro wq hSw; obtain ⟨x0, x1, x2, x3, x4, x5, x6, x7, y0, y1, y2, y3, y4, y5, y6, y7, y8, y9⟩ := hSw; go_simp <;> with_reducible rfl
    simp only [Act.put, List.setIfInBounds_toArray, List.set_cons_zero, List.set_cons_succ]
    refine take_l (i := 3) (v := ?_) rfl (by kernel_rfl) (by kernel_rfl) (by kernel_rfl) (fun _ _ _ h => h) (Or.inl ⟨by rfl, ?_⟩) (by assumption) ?_
    rotate_left
    · intro wq hSw; obtain ⟨x0, x1, x2, x3, x4, x5, x6, x7, y0, y1, y2, y3, y4, y5, y6, y7, y8, y9⟩ := hSw; go_simp <;> with_reducible rfl
    simp only [Act.put, List.setIfInBounds_toArray, List.set_cons_zero, List.set_cons_succ]
    refine take_l (i := 4) (v := ?_) rfl (by kernel_rfl) (by kernel_rfl) (by kernel_rfl) (fun _ _ _ h => h) (Or.inl ⟨by rfl, ?_⟩) (by assumption) ?_
    rotate_left
    · intro wq hSw; obtain ⟨x0, x1, x2, x3, x4, x5, x6, x7, y0, y1, y2, y3, y4, y5, y6, y7, y8, y9⟩ := hSw; go_simp <;> with_reducible rfl
    simp only [Act.put, List.setIfInBounds_toArray, List.set_cons_zero, List.set_cons_succ]
    refine take_l (i := 5) (v := ?_) rfl (by kernel_rfl) (by kernel_rfl) (by kernel_rfl) (fun _ _ _ h => h) (Or.inl ⟨by rfl, ?_⟩) (by assumption) ?_
    rotate_left
    · intro wq hSw; obtain ⟨x0, x1, x2, x3, x4, x5, x6, x7, y0, y1, y2, y3, y4, y5, y6, y7, y8, y9⟩ := hSw; go_simp <;> with_reducible rfl
    simp only [Act.put, List.setIfInBounds_toArray, List.set_cons_zero, List.set_cons_succ]
    refine take_l (i := 6) (v := ?_) rfl (by kernel_rfl) (by kernel_rfl) (by kernel_rfl) (fun _ _ _ h => h) (Or.inl ⟨by rfl, ?_⟩) (by assumption) ?_
    rotate_left
    · intro wq hSw; obtain ⟨x0, x1, x2, x3, x4, x5, x6, x7, y0, y1, y2, y3, y4, y5, y6, y7, y8, y9⟩ := hSw; go_simp <;> with_reducible rfl
    simp only [Act.put, List.setIfInBounds_toArray, List.set_cons_zero, List.set_cons_succ]
    refine take_l (i := 9) (v := ?_) rfl (by kernel_rfl) (by kernel_rfl) (by kernel_rfl) (fun _ _ _ h => h) (Or.inl ⟨by rfl, ?_⟩) (by assumption) ?_
    rotate_left
    · intro wq hSw; obtain ⟨x0, x1, x2, x3, x4, x5, x6, x7, y0, y1, y2, y3, y4, y5, y6, y7, y8, y9⟩ := hSw; go_simp <;> with_reducible rfl
    simp only [Act.put, List.setIfInBounds_toArray, List.set_cons_zero, List.set_cons_succ]
    refine wpAnyH_ready (rs := [7]) (by kernel_rfl) (by simp) ?_
    refine cons_l rfl (fun K1 hK1 => ?_) AllReadyH.nil
    go_simp
    refine (HX.out _ HB5.out).mono ?_; rintro e w6 ⟨hb6, pp, c, rfl, hs6⟩
    have HB6 := Lib.hid (bthen HB5.out hb6)
    have sI6 := keep18B hb6 sI5
    have HS6 := Lib.hid hs6
    have hcv6 := hs6 w6 (Below.refl _ _)
    clear hb6 hs6 sI5
    refine hK1.out _ _ sI6 (fun _ => ?_)
    clear hK1 K1
    refine wpAnyH_ready (rs := [8, 10]) (by kernel_rfl) (by simp) ?_
    refine cons_l rfl (fun K1 hK1 => ?_) ?_
    · go_simp
      refine hK1.out _ _ sI6 (fun _ => ?_)
      clear hK1 K1
      refine wpAnyH_ready (rs := [10]) (by kernel_rfl) (by simp) ?_
      refine cons_l rfl (fun K1 hK1 => ?_) AllReadyH.nil
      go_simp
      refine (HV.out _ (bthen H34.out HB6.out)).mono ?_; rintro e w7 ⟨t2, rfl, ht2, hb7⟩
      obtain rfl := mk_list t2 L ht2
      have HB7 := Lib.hid (bthen HB6.out hb7)
      have sI7 := keep18B hb7 sI6
      have hcv7 := HS6.out w7 hb7
      clear hb7 sI6 hcv6 ht2
      refine hK1.out _ _ sI7 (fun _ => ?_)
      clear hK1 K1
      refine take_l (i := 11) (v := ?_) rfl (by kernel_rfl) (by kernel_rfl) (by kernel_rfl) (fun _ _ _ h => h) (Or.inl ⟨by rfl, ?_⟩) (by assumption) ?_
      rotate_left
      · intro wq hSw; obtain ⟨x0, x1, x2, x3, x4, x5, x6, x7, y0, y1, y2, y3, y4, y5, y6, y7, y8, y9⟩ := hSw; go_simp <;> with_reducible rfl
      simp only [Act.put, List.setIfInBounds_toArray, List.set_cons_zero, List.set_cons_succ]
      refine take_l (i := 12) (v := ?_) rfl (by kernel_rfl) (by kernel_rfl) (by kernel_rfl) (fun _ _ _ h => h) (Or.inl ⟨by rfl, ?_⟩) (by assumption) ?_
      rotate_left
      · intro wq hSw; obtain ⟨x0, x1, x2, x3, x4, x5, x6, x7, y0, y1, y2, y3, y4, y5, y6, y7, y8, y9⟩ := hSw; go_simp <;> with_reducible rfl
      simp only [Act.put, List.setIfInBounds_toArray, List.set_cons_zero, List.set_cons_succ]
      refine take_l (i := 13) (v := ?_) rfl (by kernel_rfl) (by kernel_rfl) (by kernel_rfl) (fun _ _ _ h => h) (Or.inl ⟨by rfl, ?_⟩) (by assumption) ?_
      rotate_left
      · intro wq hSw; obtain ⟨x0, x1, x2, x3, x4, x5, x6, x7, y0, y1, y2, y3, y4, y5, y6, y7, y8, y9⟩ := hSw; go_simp <;> with_reducible rfl
      simp only [Act.put, List.setIfInBounds_toArray, List.set_cons_zero, List.set_cons_succ]
      refine take_l (i := 14) (v := ?_) rfl (by kernel_rfl) (by kernel_rfl) (by kernel_rfl) (fun _ _ _ h => h) (Or.inl ⟨by rfl, ?_⟩) (by assumption) ?_
      rotate_left
      · intro wq hSw; obtain ⟨x0, x1, x2, x3, x4, x5, x6, x7, y0, y1, y2, y3, y4, y5, y6, y7, y8, y9⟩ := hSw; go_simp <;> with_reducible rfl
      simp only [Act.put, List.setIfInBounds_toArray, List.set_cons_zero, List.set_cons_succ]
      refine take_l (i := 15) (v := ?_) rfl (by kernel_rfl) (by kernel_rfl) (by kernel_rfl) (fun _ _ _ h => h) (Or.inl ⟨by rfl, ?_⟩) (by assumption) ?_
      rotate_left
      · intro wq hSw; obtain ⟨x0, x1, x2, x3, x4, x5, x6, x7, y0, y1, y2, y3, y4, y5, y6, y7, y8, y9⟩ := hSw; go_simp <;> with_reducible rfl
      simp only [Act.put, List.setIfInBounds_toArray, List.set_cons_zero, List.set_cons_succ]
      refine wpAnyH_ready (rs := [16]) (by kernel_rfl) (by simp) ?_
      refine cons_l rfl (fun K1 hK1 => ?_) AllReadyH.nil
      go_simp
      refine (HNl.out _).mono ?_; rintro e w8 ⟨rfl, hb8⟩
      have HB8 := Lib.hid (bthen (bthen HB4.out HB7.out) hb8)
      have sI8 := keep18B hb8 sI7
      clear hb8 sI7
      refine hK1.out _ _ sI8 (fun _ => ?_)
      clear hK1 K1
      refine take_l (i := 17) (v := ?_) rfl (by kernel_rfl) (by kernel_rfl) (by kernel_rfl) (fun _ _ _ h => h) (Or.inl ⟨by rfl, ?_⟩) (by assumption) ?_
      rotate_left
      · intro wq hSw; obtain ⟨x0, x1, x2, x3, x4, x5, x6, x7, y0, y1, y2, y3, y4, y5, y6, y7, y8, y9⟩ := hSw; go_simp <;> with_reducible rfl
      simp only [Act.put, List.setIfInBounds_toArray, List.set_cons_zero, List.set_cons_succ]
      refine take_l (i := 18) (v := ?_) rfl (by kernel_rfl) (by kernel_rfl) (by kernel_rfl) (fun _ _ _ h => h) (Or.inl ⟨by rfl, ?_⟩) (by assumption) ?_
      rotate_left
      · intro wq hSw; obtain ⟨x0, x1, x2, x3, x4, x5, x6, x7, y0, y1, y2, y3, y4, y5, y6, y7, y8, y9⟩ := hSw; go_simp <;> with_reducible rfl
      simp only [Act.put, List.setIfInBounds_toArray, List.set_cons_zero, List.set_cons_succ]
      refine take_l (i := 19) (v := ?_) rfl (by kernel_rfl) (by kernel_rfl) (by kernel_rfl) (fun _ _ _ h => h) (Or.inl ⟨by rfl, ?_⟩) (by assumption) ?_
      rotate_left
      · intro wq hSw; obtain ⟨x0, x1, x2, x3, x4, x5, x6, x7, y0, y1, y2, y3, y4, y5, y6, y7, y8, y9⟩ := hSw; go_simp <;> with_reducible rfl
      simp only [Act.put, List.setIfInBounds_toArray, List.set_cons_zero, List.set_cons_succ]
      refine take_l (i := 20) (v := ?_) rfl (by kernel_rfl) (by kernel_rfl) (by kernel_rfl) (fun _ _ _ h => h) (Or.inl ⟨by rfl, ?_⟩) (by assumption) ?_
      rotate_left
      · intro wq hSw; obtain ⟨x0, x1, x2, x3, x4, x5, x6, x7, y0, y1, y2, y3, y4, y5, y6, y7, y8, y9⟩ := hSw; go_simp <;> with_reducible rfl
      simp only [Act.put, List.setIfInBounds_toArray, List.set_cons_zero, List.set_cons_succ]
      refine wpAnyH_done (by kernel_rfl) ?_ _
      go_wp2_with fail
      go_ret
      exact ⟨rfl, HB8.out⟩

    refine cons_l rfl (fun K1 hK1 => ?_) AllReadyH.nil
    go_simp
    refine (HV.out _ (bthen H34.out HB6.out)).mono ?_; rintro e w7 ⟨t2, rfl, ht2, hb7⟩
    obtain rfl := mk_list t2 L ht2
    have HB7 := Lib.hid (bthen HB6.out hb7)
    have sI7 := keep18B hb7 sI6
    have hcv7 := HS6.out w7 hb7
    clear hb7 sI6 hcv6 ht2
    refine hK1.out _ _ sI7 (fun _ => ?_)
    clear hK1 K1
    refine wpAnyH_ready (rs := [8]) (by kernel_rfl) (by simp) ?_
    refine cons_l rfl (fun K1 hK1 => ?_) AllReadyH.nil
    go_simp
    refine hK1.out _ _ sI7 (fun _ => ?_)
    clear hK1 K1
    refine take_l (i := 11) (v := ?_) rfl (by kernel_rfl) (by kernel_rfl) (by kernel_rfl) (fun _ _ _ h => h) (Or.inl ⟨by rfl, ?_⟩) (by assumption) ?_
    rotate_left
    · intro wq hSw; obtain ⟨x0, x1, x2, x3, x4, x5, x6, x7, y0, y1, y2, y3, y4, y5, y6, y7, y8, y9⟩ := hSw; go_simp <;> with_reducible rfl
    simp only [Act.put, List.setIfInBounds_toArray, List.set_cons_zero, List.set_cons_succ]
    refine take_l (i := 12) (v := ?_) rfl (by kernel_rfl) (by kernel_rfl) (by kernel_rfl) (fun _ _ _ h => h) (Or.inl ⟨by rfl, ?_⟩) (by assumption) ?_
    rotate_left
    · intro wq hSw; obtain ⟨x0, x1, x2, x3, x4, x5, x6, x7, y0, y1, y2, y3, y4, y5, y6, y7, y8, y9⟩ := hSw; go_simp <;> with_reducible rfl
    simp only [Act.put, List.setIfInBounds_toArray, List.set_cons_zero, List.set_cons_succ]
    refine take_l (i := 13) (v := ?_) rfl (by kernel_rfl) (by kernel_rfl) (by kernel_rfl) (fun _ _ _ h => h) (Or.inl ⟨by rfl, ?_⟩) (by assumption) ?_
    rotate_left
    · intro wq hSw; obtain ⟨x0, x1, x2, x3, x4, x5, x6, x7, y0, y1, y2, y3, y4, y5, y6, y7, y8, y9⟩ := hSw; go_simp <;> with_reducible rfl
    simp only [Act.put, List.setIfInBounds_toArray, List.set_cons_zero, List.set_cons_succ]
    refine take_l (i := 14) (v := ?_) rfl (by kernel_rfl) (by kernel_rfl) (by kernel_rfl) (fun _ _ _ h => h) (Or.inl ⟨by rfl, ?_⟩) (by assumption) ?_
    rotate_left
    · intro wq hSw; obtain ⟨x0, x1, x2, x3, x4, x5, x6, x7, y0, y1, y2, y3, y4, y5, y6, y7, y8, y9⟩ := hSw; go_simp <;> with_reducible rfl
    simp only [Act.put, List.setIfInBounds_toArray, List.set_cons_zero, List.set_cons_succ]
    refine take_l (i := 15) (v := ?_) rfl (by kernel_rfl) (by kernel_rfl) (by kernel_rfl) (fun _ _ _ h => h) (Or.inl ⟨by rfl, ?_⟩) (by assumption) ?_
    rotate_left
    · intro wq hSw; obtain ⟨x0, x1, x2, x3, x4, x5, x6, x7, y0, y1, y2, y3, y4, y5, y6, y7, y8, y9⟩ := hSw; go_simp <;> with_reducible rfl
    simp only [Act.put, List.setIfInBounds_toArray, List.set_cons_zero, List.set_cons_succ]
    refine wpAnyH_ready (rs := [16]) (by kernel_rfl) (by simp) ?_
    refine cons_l rfl (fun K1 hK1 => ?_) AllReadyH.nil
    go_simp
    refine (HNl.out _).mono ?_; rintro e w8 ⟨rfl, hb8⟩
    have HB8 := Lib.hid (bthen (bthen HB4.out HB7.out) hb8)
    have sI8 := keep18B hb8 sI7
    clear hb8 sI7
    refine hK1.out _ _ sI8 (fun _ => ?_)
    clear hK1 K1
    refine take_l (i := 17) (v := ?_) rfl (by kernel_rfl) (by kernel_rfl) (by kernel_rfl) (fun _ _ _ h => h) (Or.inl ⟨by rfl, ?_⟩) (by assumption) ?_
    rotate_left
    · intro wq hSw; obtain ⟨x0, x1, x2, x3, x4, x5, x6, x7, y0, y1, y2, y3, y4, y5, y6, y7, y8, y9⟩ := hSw; go_simp <;> with_reducible rfl
    simp only [Act.put, List.setIfInBounds_toArray, List.set_cons_zero, List.set_cons_succ]
    refine take_l (i := 18) (v := ?_) rfl (by kernel_rfl) (by kernel_rfl) (by kernel_rfl) (fun _ _ _ h => h) (Or.inl ⟨by rfl, ?_⟩) (by assumption) ?_
    rotate_left
    · intro wq hSw; obtain ⟨x0, x1, x2, x3, x4, x5, x6, x7, y0, y1, y2, y3, y4, y5, y6, y7, y8, y9⟩ := hSw; go_simp <;> with_reducible rfl
    simp only [Act.put, List.setIfInBounds_toArray, List.set_cons_zero, List.set_cons_succ]
    refine take_l (i := 19) (v := ?_) rfl (by kernel_rfl) (by kernel_rfl) (by kernel_rfl) (fun _ _ _ h => h) (Or.inl ⟨by rfl, ?_⟩) (by assumption) ?_
    rotate_left
    · intro wq hSw; obtain ⟨x0, x1, x2, x3, x4, x5, x6, x7, y0, y1, y2, y3, y4, y5, y6, y7, y8, y9⟩ := hSw; go_simp <;> with_reducible rfl
    simp only [Act.put, List.setIfInBounds_toArray, List.set_cons_zero, List.set_cons_succ]
    refine take_l (i := 20) (v := ?_) rfl (by kernel_rfl) (by kernel_rfl) (by kernel_rfl) (fun _ _ _ h => h) (Or.inl ⟨by rfl, ?_⟩) (by assumption) ?_
    rotate_left
    · intro wq hSw; obtain ⟨x0, x1, x2, x3, x4, x5, x6, x7, y0, y1, y2, y3, y4, y5, y6, y7, y8, y9⟩ := hSw; go_simp <;> with_reducible rfl
    simp only [Act.put, List.setIfInBounds_toArray, List.set_cons_zero, List.set_cons_succ]
    refine wpAnyH_done (by kernel_rfl) ?_ _
    go_wp2_with fail
    go_ret
    exact ⟨rfl, HB8.out⟩
end Cn
end Go.Proofs.YtigjkkmnellanaaDoor
