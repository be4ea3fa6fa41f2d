/-
  A stack's calls, by contracts: Push, Pop, Top, Swap, Take.
-/
import Derived.Test.YtcmoppliipdfgaaStkOps2
namespace Go.Proofs.Ytcmoppliipdfgaa
open Go.RowKit
open St Stk
namespace Stk
/-- one cell of block s has turned -/
structure Set1 (W : World) (s : Nat) (c : Obj) (w' : World) : Prop where
  blk : w'.heap[s]? = some c
  far : ∀ k, k ≠ s → w'.heap[k]? = W.heap[k]?
  size : w'.heap.size = W.heap.size
  os : w'.os = W.os
  tape : w'.tape = W.tape
  output : w'.output = W.output
theorem _root_.Go.Proofs.Ytcmoppliipdfgaa.SkC.put {w : World} {s : Nat} {v v' : Value} {most ov un : Int} (h : SkC w s v most ov un) : Set1 w s (.cells #[v', .int .i64 most, .int .i64 ov, .int .i64 un] 176 (0, 0)) (w.setCell ⟨s, 0, none⟩ v') :=
  ⟨blk_set h 0 v', fun _ hk => blk_far hk v', setC_size _ _ _, setC_os _ _ _, setC_tape _ _ _, setC_output _ _ _⟩
theorem sl_ne {w : World} {s : Nat} {v v' : Value} {l : List Ob} {most ov un : Int} (h : SL w v' l) (hb : SkC w s v most ov un) : ∀ k, isB v' k → k ≠ s := by
  intro _ hk e
  rw [e] at hk
  rcases h with ⟨rfl, _⟩ | ⟨g, cap, cur, rfl, hg, _⟩
  · cases hk
  · have : g = s := by simpa [isB, Value.ownBlock] using hk
    subst this
    unfold SkC at hb
    rw [hg] at hb
    cases hb
theorem Sk.skc {O : Nat → Prop} {w : World} {s : Nat} {most ov un : Int} {l : List Ob} (h : Sk O w s most ov un l) : ∃ a c, SkC w s (.slice a l.length c) most ov un ∧ SL w (.slice a l.length c) l ∧ (∀ k, isB (.slice a l.length c) k → O k) ∧ (a = none → c = 0) ∧ l.length ≤ c := by
  obtain ⟨v, hb, hs, ho⟩ := h.blk
  obtain ⟨a, c, rfl, h1, h2⟩ := hs.form
  exact ⟨a, c, hb, hs, ho, h1, h2⟩
/-- another row has come to the stack -/
theorem Sk.put {O : Nat → Prop} {w w2 w3 : World} {s : Nat} {most ov un : Int} {l l' : List Ob} {v v' : Value} (h : Sk O w s most ov un l) (hF : Frm O w w2) (hc : SkC w2 s v most ov un) (hl : SL w2 v' l') (hO : ∀ k, isB v' k → O k ∨ w.heap.size ≤ k) (hfit : (l'.length : Int) ≤ most) (hfew : l'.length ≤ 50000)
    (hp : Set1 w2 s (.cells #[v', .int .i64 most, .int .i64 ov, .int .i64 un] 176 (0, 0)) w3) : SkP O w s most ov un l' w3 := by
  have hne := sl_ne hl hc
  have hz := hF.size
  refine ⟨fun k => O k ∨ isB v' k, ⟨.inl h.os, fun k hk => ?_, ⟨v', hp.blk, hl.same (fun k hk => hp.far k (hne k hk)), fun k hk => .inr hk⟩, h.m0, h.m1, hfit, hfew⟩, ⟨hp.os.trans hF.os, hp.tape.trans hF.tape, hp.output.trans hF.output, by rw [hp.size]; exact hz, fun k hk hn => ?_⟩, fun k hk => ?_⟩
  · rw [hp.size]
    rcases hk with hk | hk
    · have := h.olt k hk; omega
    · exact hl.lt hk
  · rw [hp.far k (fun e => hn (e ▸ h.os))]
    exact hF.block k hk hn
  · rcases hk with hk | hk
    · exact .inl hk
    · exact hO k hk
theorem SkP.after {O : Nat → Prop} {w w2 : World} {s : Nat} {most ov un : Int} {l : List Ob} (h : SkP O w s most ov un l w2) {w3 : World} (hb : Below w2.heap.size w2 w3) : SkP O w s most ov un l w3 := by
  obtain ⟨O', h1, h2, h3⟩ := h
  exact ⟨O', h1.below hb, ⟨hb.os.trans h2.os, hb.tape.trans h2.tape, hb.output.trans h2.output, Nat.le_trans h2.size hb.size, fun k hk hn => (hb.block k (Nat.lt_of_lt_of_le hk h2.size)).trans (h2.block k hk hn)⟩, h3⟩
theorem SkP.from {O : Nat → Prop} {w w1 w2 : World} {s : Nat} {most ov un : Int} {l' : List Ob} (hb : Below w.heap.size w w1) (h2 : SkP O w1 s most ov un l' w2) : SkP O w s most ov un l' w2 := by
  obtain ⟨O', h1, hF, h3⟩ := h2
  have hz := hb.size
  refine ⟨O', h1, ⟨hF.os.trans hb.os, hF.tape.trans hb.tape, hF.output.trans hb.output, Nat.le_trans hb.size hF.size, fun k hk hn => (hF.block k (by omega) hn).trans (hb.block k hk)⟩, fun k hk => ?_⟩
  rcases h3 k hk with e | e
  · exact .inl e
  · right; omega
theorem SL.take {w : World} {g n c i : Nat} {l : List Ob} (h : SL w (.slice (some ⟨g, 0, none⟩) n c) l) (hi : i ≤ l.length) : SL w (.slice (some ⟨g, 0, none⟩) i i) (l.take i) := by
  have hlen : (l.take i).length = i := by rw [List.length_take]; omega
  rcases h with ⟨e, _⟩ | ⟨g', cap', cur, e, hg, h1, h2, h3, ht⟩
  · cases e
  · cases e
    refine .inr ⟨g, i, cur, by rw [hlen], hg, by rw [hlen]; exact Nat.le_refl _, by omega, by omega, ?_⟩
    rw [hlen]
    have e1 : cur.toList.take (i * 8) = (cur.toList.take (l.length * 8)).take (i * 8) := by rw [List.take_take, Nat.min_eq_left (by omega)]
    rw [e1, ht]
    have e2 : l.flatMap Ob.cells = (l.take i).flatMap Ob.cells ++ (l.drop i).flatMap Ob.cells := by rw [← List.flatMap_append, List.take_append_drop]
    rw [e2]
    have e3 : i * 8 = ((l.take i).flatMap Ob.cells).length := by rw [obs_len, hlen]
    rw [e3]
    exact List.take_left
theorem SL.obAt {w : World} {g n c p : Nat} {l : List Ob} {o : Ob} (h : SL w (.slice (some ⟨g, 0, none⟩) n c) l) (hp : l[p]? = some o) : w.cell? ⟨g, p * 8, none⟩ = some (.int .i64 o.kind) ∧ w.cell? ⟨g, p * 8 + 1, none⟩ = some (.bool o.exec) ∧ w.cell? ⟨g, p * 8 + 2, none⟩ = some (.int .i64 o.acc) ∧ w.cell? ⟨g, p * 8 + 3, none⟩ = some (.int .i64 o.n) ∧ w.cell? ⟨g, p * 8 + 4, none⟩ = some (.string o.name) ∧ w.cell? ⟨g, p * 8 + 5, none⟩ = some (.int .i64 o.ref) ∧ w.cell? ⟨g, p * 8 + 6, none⟩ = some (.int .i64 o.frm) ∧ w.cell? ⟨g, p * 8 + 7, none⟩ = some (.int .i64 o.len) := by
  have hl : p < l.length := (List.getElem?_eq_some_iff.1 hp).1
  have hc : ∀ f, f < 8 → w.cell? ⟨g, p * 8 + f, none⟩ = o.cells[f]? := fun f hf => by rw [h.cellAt (p * 8 + f) (by omega), obs_at l p f o hp hf]
  exact ⟨hc 0 (by omega), hc 1 (by omega), hc 2 (by omega), hc 3 (by omega), hc 4 (by omega), hc 5 (by omega), hc 6 (by omega), hc 7 (by omega)⟩
end Stk
section
variable {O : Nat → Prop} {w : World} {s : Nat} {most ov un : Int} {l : List Ob}
set_option maxRecDepth 100000
theorem push_fit {ys : List Ob} {a : Option Addr} {c : Nat} (h : Sk O w s most ov un l) (hs : SrcO w a ys) (hc : a = none → c = 0) (hm : l.length + ys.length ≤ 50000) (hf : (l.length : Int) + ys.length ≤ most) :
    Calls Try.prog 53 #[.pointer (some ⟨s, 0, none⟩), .slice a ys.length c] w fun e w' => e = .returned (.int .i64 0) ∧ SkP O w s most ov un (l ++ ys) w' := by
  obtain ⟨la, lc, hk, hl, ho, _, _⟩ := h.skc
  obtain ⟨v', w2, hr, h2, h3, h4, _⟩ := SL.append (hl.below (below_draw (Below.refl _ _) 1)) (hs.below (below_draw (Below.refl _ _) 1)) hc (by omega) 34
  have hkd : SkC (w.drewN 1) s (.slice la l.length lc) most ov un := hk
  have hF : Frm O w w2 := ⟨h3.os, h3.tape, h3.output, h3.size, fun k hk2 hn => h3.block k hk2 (fun e => hn (ho k e.symm))⟩
  have hk2 : SkC w2 s (.slice la l.length lc) most ov un := (h3.block s h.lt (fun e => sl_ne hl hk s e.symm rfl)).trans hkd
  have hP := Lib.hid (h.put hF hk2 h2 (fun k hk3 => (h4 k hk3).imp (ho k) id) (by rw [List.length_append]; omega) (by rw [List.length_append]; omega) hk2.put)
  obtain ⟨d0, d1, d2, d3, df⟩ := hk2.cells
  obtain ⟨c0, c1, c2, c3, cf⟩ := hk.cells
  obtain ⟨va, vc, rfl, _⟩ := h2.form
  obtain ⟨vn, hvn⟩ : ∃ n, (l ++ ys).length = n := ⟨_, rfl⟩
  rw [hvn] at hr hP
  have HR := Lib.hid hr
  have hm0 := h.m0
  have hm1 := h.m1
  have hfit := h.fit
  have hfew := h.few
  have hdec : decide (most - (l.length : Int) < (ys.length : Int)) = false := decide_eq_false (by omega)
  clear h hk hl ho hr h2 h3 h4 hkd hF hk2 hs hvn
  go_enter Try.func53, Try.ntmps53
  go_wp2_with fail
  go_region
  all_goals go_wp2_with (at_builtin; refine wpList_append_run7 rfl (.tmp 28) (.tmp 29) 34 34 34 (.slice va vn vc) rfl rfl _ _ rfl rfl HR.out ?_)
  all_goals go_ret
  all_goals exact ⟨rfl, hP.out⟩
theorem push_full {ys : List Ob} {a : Option Addr} {c : Nat} (h : Sk O w s most ov un l) (hm : l.length + ys.length ≤ 50000) (hf : ¬ (l.length : Int) + ys.length ≤ most) :
    Calls Try.prog 53 #[.pointer (some ⟨s, 0, none⟩), .slice a ys.length c] w fun e w' => e = .returned (.int .i64 ov) ∧ SkP O w s most ov un l w' := by
  obtain ⟨la, lc, hk, hl, ho, _, _⟩ := h.skc
  obtain ⟨c0, c1, c2, c3, cf⟩ := hk.cells
  have hP := Lib.hid (h.keep (below_draw (Below.refl _ _) 1))
  have hm0 := h.m0
  have hm1 := h.m1
  have hfit := h.fit
  have hfew := h.few
  have hdec : decide (most - (l.length : Int) < (ys.length : Int)) = true := decide_eq_true (by omega)
  clear h hk hl ho
  go_enter Try.func53, Try.ntmps53
  go_wp2_with fail
  go_region
  all_goals go_wp2_with fail
  all_goals go_ret
  all_goals exact ⟨rfl, hP.out⟩
theorem push_nil (w : World) (v : Value) : Calls Try.prog 53 #[.pointer none, v] w fun e w' => e = .returned (.int .i64 21) ∧ w' = w := by
  go_enter Try.func53, Try.ntmps53
  go_wp2_with fail
  go_ret
  exact ⟨rfl, rfl⟩
end
end Go.Proofs.Ytcmoppliipdfgaa
