/-
  A stack's calls, by contracts: Pop, Swap, Take.
-/
import Derived.Test.YtcmoppliipdfgaaStkOps4
namespace Go.Proofs.Ytcmoppliipdfgaa
open Go.RowKit
open St Stk
namespace Stk
/-- a row's cells, flat -/
def SLc (w : World) (g n cap : Nat) (xs : List Value) : Prop := ∃ cur, w.heap[g]? = some (.cells cur 40 (0, 0)) ∧ n ≤ cap ∧ cap ≤ maxLen ∧ cap * 8 ≤ cur.size ∧ cur.toList.take (n * 8) = xs
theorem SL.flat {w : World} {g n cap : Nat} {l : List Ob} (h : SL w (.slice (some ⟨g, 0, none⟩) n cap) l) : SLc w g l.length cap (l.flatMap Ob.cells) := by
  rcases h with ⟨e, _⟩ | ⟨g', cap', cur, e, hg, h1, h2, h3, ht⟩
  · cases e
  · cases e
    exact ⟨cur, hg, h1, h2, h3, ht⟩
theorem SLc.sl {w : World} {g cap : Nat} {l : List Ob} (h : SLc w g l.length cap (l.flatMap Ob.cells)) : SL w (.slice (some ⟨g, 0, none⟩) l.length cap) l := by
  obtain ⟨cur, h0, h1, h2, h3, ht⟩ := h
  exact .inr ⟨g, cap, cur, rfl, h0, h1, h2, h3, ht⟩
theorem SLc.set {w : World} {g n cap : Nat} {xs : List Value} (h : SLc w g n cap xs) (j : Nat) (u : Value) : SLc (w.setCell ⟨g, j, none⟩ u) g n cap (xs.set j u) := by
  obtain ⟨cur, h0, h1, h2, h3, ht⟩ := h
  refine ⟨_, blk_set h0 j u, h1, h2, by simpa using h3, ?_⟩
  rw [← ht]
  simp [List.take_set]
theorem SLc.set8 {w : World} {g n cap : Nat} {xs : List Value} (h : SLc w g n cap xs) (o : Nat) (x : Ob) : SLc (set8 w g o x) g n cap (lset8 xs o x) := by
  unfold Go.Proofs.Ytcmoppliipdfgaa.set8 lset8
  exact SLc.set (SLc.set (SLc.set (SLc.set (SLc.set (SLc.set (SLc.set (SLc.set h _ _) _ _) _ _) _ _) _ _) _ _) _ _) _ _
/-- fewer are left, in the same row -/
theorem Sk.left {O : Nat → Prop} {w w3 : World} {s g c i : Nat} {most ov un : Int} {l : List Ob} (h : Sk O w s most ov un l) (hl : SL w (.slice (some ⟨g, 0, none⟩) l.length c) l) (hk : SkC w s (.slice (some ⟨g, 0, none⟩) l.length c) most ov un) (ho : O g) (hi : i ≤ l.length)
    (hb : w3.heap[s]? = some (stkC (.slice (some ⟨g, 0, none⟩) i i) most ov un)) (hF : Frm (fun k => k = s) w w3) : SkP O w s most ov un (l.take i) w3 := by
  have hne := sl_ne hl hk
  have hfit := h.fit
  have hfew := h.few
  have hlen : (l.take i).length = i := by rw [List.length_take]; omega
  have hgl : g < w.heap.size := hl.lt rfl
  refine ⟨O, ⟨h.os, fun k hk => Nat.lt_of_lt_of_le (h.olt k hk) hF.size, ⟨_, hb, (hl.take hi).same (fun k hk2 => ?_), fun k hk2 => ?_⟩, h.m0, h.m1, by rw [hlen]; omega, by rw [hlen]; omega⟩, hF.mono (fun k _ e => e ▸ h.os), fun _ e => .inl e⟩
  · have e : g = k := by simpa [isB, Value.ownBlock] using hk2
    subst e
    exact hF.block g hgl (fun e => hne g rfl e)
  · have e : g = k := by simpa [isB, Value.ownBlock] using hk2
    subst e
    exact ho
/-- one object has turned, in the same row -/
theorem Sk.turned {O : Nat → Prop} {w w3 : World} {s g c p : Nat} {most ov un : Int} {l : List Ob} {x : Ob} (h : Sk O w s most ov un l) (hl : SL w (.slice (some ⟨g, 0, none⟩) l.length c) l) (hk : SkC w s (.slice (some ⟨g, 0, none⟩) l.length c) most ov un) (ho : ∀ k, isB (.slice (some ⟨g, 0, none⟩) l.length c) k → O k) (hp : p < l.length)
    (hb : Below w.heap.size w w3) : SkP O w s most ov un (l.set p x) (set8 w3 g (p * 8) x) := by
  have hne := sl_ne hl hk g rfl
  have hfit := h.fit
  have hfew := h.few
  have hz := hb.size
  have hgl : g < w.heap.size := hl.lt rfl
  obtain ⟨e1, e2, e3⟩ := set8_env w3 g (p * 8) x
  have hs := (hl.below hb).flat.set8 (p * 8) x
  rw [lset8_obs x l p hp, show l.length = (l.set p x).length by simp] at hs
  refine ⟨O, ⟨h.os, fun k hk => ?_, ⟨.slice (some ⟨g, 0, none⟩) (l.set p x).length c, ?_, hs.sl, fun k hk2 => ho k hk2⟩, h.m0, h.m1, by simpa using hfit, by simpa using hfew⟩, ⟨e1.trans hb.os, e2.trans hb.tape, e3.trans hb.output, by rw [set8_size]; exact hz, fun k hk hn => ?_⟩, fun _ e => .inl e⟩
  · rw [set8_size]; have := h.olt k hk; omega
  · rw [set8_far (fun e => hne e.symm), List.length_set]
    exact (hb.block s h.lt).trans hk
  · rw [set8_far (fun (e : k = g) => hn (by rw [e]; exact ho g rfl))]
    exact hb.block k hk
theorem yes_row {w : World} {la : Option Addr} {c i : Nat} {l : List Ob} (h : SL w (.slice la l.length c) l) (hi : i < l.length) : ∃ g, la = some ⟨g, 0, none⟩ := by
  rcases h with ⟨_, e⟩ | ⟨g, cap, cur, e, _⟩
  · rw [e] at hi; simp at hi
  · cases e; exact ⟨g, rfl⟩
end Stk
section
variable {O : Nat → Prop} {w : World} {s : Nat} {most ov un : Int} {l : List Ob}
set_option maxRecDepth 100000
set_option maxHeartbeats 1000000
theorem pop_yes {m : Nat} {o : Ob} (h : Sk O w s most ov un l) (hm : l.length = m + 1) (ho : l[m]? = some o) : Calls Try.prog 54 #[.pointer (some ⟨s, 0, none⟩)] w (SkO O w s most ov un (l.take m) o 0) := by
  have hb := below1 w (.cells zeroOb 40)
  obtain ⟨la, lc, hk, hl, hO, _, hcap⟩ := h.skc
  obtain ⟨g, rfl⟩ := yes_row hl (i := m) (by omega)
  have hsl := h.lt
  have hgl : g < w.heap.size := hl.lt rfl
  have hfew := h.few
  have hp := place_ok (hk.below hb) hfew (i := 0) (by omega)
  rw [show l.length - 1 - 0 = m by omega] at hp
  have HP := Lib.hid hp
  have HB := Lib.hid (fun q => bthen (below_draw hb q) (below1 ((w.alloc (.cells zeroOb 40)).drewN q) (obC o)))
  have HC := Lib.hid (fun q => (hl.below (below_draw hb q)).obAt ho)
  have HK := Lib.hid (fun q => hk.below (HB.out q))
  have HL := Lib.hid (fun q => leave_set (HK.out q) hcap (i := m) (by omega))
  have HD := Lib.hid (fun w3 hb hF => h.left (w3 := w3) (i := m) hl hk (hO g rfl) (by omega) hb hF)
  have e1 : (l.length : Int) - 1 = m := by omega
  unfold SkO Ob.val
  unfold zeroOb at HP HB HC HL HK
  unfold obC at HB HL HK
  clear h hk hb hm hl ho hp hO hcap
  go_enter Try.func54, Try.ntmps54
  go_wp2_with fail
  refine HP.out.mono ?_; rintro e w1 ⟨rfl, q, rfl⟩
  obtain ⟨o0, o1, o2, o3, o4, o5, o6, o7⟩ := HC.out q
  have hkq := HK.out q
  obtain ⟨k0, _⟩ := hkq.cells
  clear hkq
  go_wp2_with fail
  refine (HL.out q).mono ?_; rintro e w5 ⟨rfl, hs⟩
  have hz1 : w5.heap[w.heap.size]? = some (.cells #[.int .i64 0, .bool false, .int .i64 0, .int .i64 0, .string ⟨#[]⟩, .int .i64 0, .int .i64 0, .int .i64 0] 40 (0, 0)) := by
    rw [hs.far _ (by omega), heap_alloc_old _ _ (by simp [World.drewN])]
    exact heap_alloc_new w _
  have hz2 : w5.heap[w.heap.size + 1]? = some (.cells #[.int .i64 o.kind, .bool o.exec, .int .i64 o.acc, .int .i64 o.n, .string o.name, .int .i64 o.ref, .int .i64 o.frm, .int .i64 o.len] 40 (0, 0)) := by
    rw [hs.far _ (by omega)]
    exact alloc_at (by simp [World.drewN])
  have HS := Lib.hid hs
  have HZ1 := Lib.hid hz1
  obtain ⟨d0, d1, d2, d3, d4, d5, d6, d7, df⟩ := box_cells hz1
  obtain ⟨b0, b1, b2, b3, b4, b5, b6, b7⟩ := cellsOb hz2
  clear hz1 hz2 hs o0 o1 o2 o3 o4 o5 o6 o7 k0
  go_wp2_with fail
  have hp := put8 HZ1.out (.int .i64 o.kind) (.bool o.exec) (.int .i64 o.acc) (.int .i64 o.n) (.string o.name) (.int .i64 o.ref) (.int .i64 o.frm) (.int .i64 o.len)
  refine bodyPost_ret (results_ob2 Try.results54 _ _ w.heap.size rfl rfl hp.blk) rfl ⟨rfl, HD.out _ ?_ ?_⟩
  · rw [hp.far _ (by omega)]; exact HS.out.blk
  · have hbq := HB.out q
    exact ⟨hp.os.trans (HS.out.os.trans hbq.os), hp.tape.trans (HS.out.tape.trans hbq.tape), hp.output.trans (HS.out.output.trans hbq.output), by rw [hp.size, HS.out.size]; exact hbq.size, fun k hk hn => by rw [hp.far _ (by omega), HS.out.far _ hn]; exact hbq.block k hk⟩
theorem swap_no {i x : Int} (y : Ob) (h : Sk O w s most ov un l) (hp : ∀ w1, Below w.heap.size w w1 → Calls Try.prog 93 #[.pointer (some ⟨s, 0, none⟩), .int .i64 i] w1 fun e w' => e = .returned (.tuple #[.pointer none, .int .i64 x]) ∧ ∃ q, w' = w1.drewN q) :
    Calls Try.prog 57 #[.pointer (some ⟨s, 0, none⟩), .int .i64 i, y.val] w fun e w' => e = .returned (.int .i64 x) ∧ SkP O w s most ov un l w' := by
  have hb := below1 w (obC y)
  have HP := Lib.hid (hp _ hb)
  have HK := Lib.hid (fun q => h.keep (below_draw hb q))
  unfold obC at HP HK
  unfold Ob.val
  clear h hp hb
  go_enter Try.func57, Try.ntmps57
  go_wp2_with fail
  refine HP.out.mono ?_; rintro e w1 ⟨rfl, q, rfl⟩
  go_wp2_with fail
  go_ret
  exact ⟨rfl, HK.out q⟩
theorem swap_yes {i : Nat} (y : Ob) (h : Sk O w s most ov un l) (hi : i < l.length) :
    Calls Try.prog 57 #[.pointer (some ⟨s, 0, none⟩), .int .i64 i, y.val] w fun e w' => e = .returned (.int .i64 0) ∧ SkP O w s most ov un (l.set (l.length - 1 - i) y) w' := by
  have hb := below1 w (obC y)
  obtain ⟨la, lc, hk, hl, hO, _, hcap⟩ := h.skc
  obtain ⟨g, rfl⟩ := yes_row hl hi
  have HP := Lib.hid (place_ok (hk.below hb) h.few hi)
  obtain ⟨m, hm⟩ : ∃ m, l.length - 1 - i = m := ⟨_, rfl⟩
  rw [hm] at HP ⊢
  have hml : m < l.length := by omega
  have hx := List.getElem?_eq_getElem hml
  have HC := Lib.hid (fun q => (hl.below (below_draw hb q)).obAt hx)
  have HF := Lib.hid (fun q (j : Nat) => (hl.below (below_draw hb q)).free j)
  have HY := Lib.hid (fun q => cellsOb (show ((w.alloc (obC y)).drewN q).heap[w.heap.size]? = some (obC y) from heap_alloc_new w _))
  have HT := Lib.hid (fun q => h.turned (x := y) hl hk hO hml (below_draw hb q))
  have hgl : g < w.heap.size := hl.lt rfl
  generalize l[m] = x at *
  unfold set8 at HT
  unfold obC at HP HC HF HY HT
  unfold Ob.val
  clear h hk hb hl hO hcap hx hm
  go_enter Try.func57, Try.ntmps57
  go_wp2_with fail
  refine HP.out.mono ?_; rintro e w1 ⟨rfl, q, rfl⟩
  obtain ⟨o0, o1, o2, o3, o4, o5, o6, o7⟩ := HC.out q
  obtain ⟨y0, y1, y2, y3, y4, y5, y6, y7⟩ := HY.out q
  have hf := HF.out q
  go_wp2_with fail
  go_ret
  exact ⟨rfl, HT.out q⟩
end
end Go.Proofs.Ytcmoppliipdfgaa
