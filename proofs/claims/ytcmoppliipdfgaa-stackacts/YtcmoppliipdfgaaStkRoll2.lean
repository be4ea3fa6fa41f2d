/-
  A stack's Roll, by contracts.
-/
import Derived.Test.YtcmoppliipdfgaaStkRoll
namespace Go.Proofs.Ytcmoppliipdfgaa
open Go.RowKit
open St Stk
/-- an operation that reads is taken first -/
theorem take_s {P : Program} {l : List Oper} {Q : Exit → Act → World → Prop} {md : Region.Mode} {S : World → Prop} {i : Nat} {oi : Oper} {v : Value} {fuel : Nat} {listed : Array Bool} {a : Act} {w : World} (hi : l[i]? = some oi)
    (hs : Region.noSelect l.toArray = true) (hf : Region.free md l.toArray listed i = true) (hr : (Region.ready md l.toArray listed).contains i = true)
    (hQ : ∀ c a w, Q (.panic c) (a.put oi.dst v) w → Q (.panic c) a w) (hy : YieldsIf P l.toArray S oi v a) (hS : S w)
    (h : wpAnyH P md l.toArray Q S fuel (listed.setIfInBounds i true) (a.put oi.dst v) w) : wpAnyH P md l.toArray Q S (fuel + 1) listed a w :=
  wpAnyH_take (by simpa using hi) hs hf hr hQ hy hS h
/-- an operation that comes up next -/
theorem cons_s {P : Program} {l : List Oper} {Q : Exit → Act → World → Prop} {md : Region.Mode} {S : World → Prop} {fuel : Nat} {listed : Array Bool} {a : Act} {w : World} {i : Nat} {o : Oper} {rs : List Nat} (ho : l[i]? = some o)
    (h : ∀ K' : Act → World → Prop, Shut (∀ a w, S w → (S w → wpAnyH P md l.toArray Q S fuel (listed.setIfInBounds i true) a w) → K' a w) → if Region.wanted o (yielded l.toArray a.tmps) = true then Oper.wp P o a w K' Q else K' (a.put o.dst undef) w)
    (hs : AllReadyH P md l.toArray Q S fuel listed a w rs) : AllReadyH P md l.toArray Q S fuel listed a w (i :: rs) := AllReadyH.cons (by simpa using ho) h hs
theorem wp_copy_run7 {P : Program} (w : World) {o : Oper} {a : Act} {K : Act → World → Prop} {Q : Exit → Act → World → Prop} (s x : Operand) (t u ty : TypeId) (v : Value)
    (ho : o.op = .call { callee := .builtin .copy, args := #[s, x], argTypes := #[t, u] }) (hty : o.type = ty) (us ux : Value) (hs : a.eval s = us) (hx : a.eval x = ux)
    (w2 : World) (hr : (Builtin.copy_ #[t, u] ty #[us, ux]).run P w = .ok v w2) (h : K (a.put o.dst v) w2) : o.wp P a w K Q := by
  unfold Oper.wp execOp
  simp only [ho, hty, resolve, invoke, builtin, Sem.run_bind, Sem.run_pure, Result.andThen_ok, List.map_toArray, List.map_cons, List.map_nil, hs, hx, hr]
  exact h
theorem copyO_run {W : World} {a : Option Addr} {c g o n dc : Nat} {l : List Ob} {cur : Array Value} (h : SrcO W a l) (hl : l.length = n) (h0 : 0 < n) (hg : W.heap[g]? = some (.cells cur 40 (0, 0))) (hfit : o + n * 8 ≤ cur.size) :
    ∃ w', (Builtin.copy_ #[34, 34] 3 #[.slice (some ⟨g, o, none⟩) n dc, .slice a n c]).run Try.prog W = .ok (.int .i64 n) w' ∧
      w'.heap[g]? = some (.cells (cur.toList.take o ++ l.flatMap Ob.cells ++ cur.toList.drop (o + n * 8)).toArray 40 (0, 0)) ∧ (∀ k, k ≠ g → w'.heap[k]? = W.heap[k]?) ∧ w'.heap.size = W.heap.size ∧ w'.os = W.os ∧ w'.tape = W.tape ∧ w'.output = W.output := by
  obtain ⟨i0, hi, hz0, hz1, hz2⟩ := info_parts obj_info
  have hlen : (l.flatMap Ob.cells).length = n * 8 := by rw [obs_len, hl]
  rcases h with rfl | ⟨ad, rfl, hc⟩
  · simp at hl; omega
  · have hld := run_loadCells_list (P := Try.prog) W ad (l.flatMap Ob.cells) hc
    have hst := run_storeCells_at Try.prog g o 40 (l.flatMap Ob.cells) 0 cur W hg (by rw [hlen]; simpa using hfit) (obs_one l)
    rw [hlen] at hld hst
    simp only [Nat.add_zero] at hst
    refine ⟨_, ?_, setRow_heap W g _ _ _ _ hg, fun k hk => setRow_other W g k _ hk, by simp [World.setRow], rfl, rfl, rfl⟩
    simp [Builtin.copy_, run_underlying Try.underlying34, Builtin.lenOf, Builtin.firstCells, sizeOf, typeInfo, hi, hz1, hld, hst, goInt]
theorem flat_take (l : List Ob) (k : Nat) : (l.flatMap Ob.cells).take (k * 8) = (l.take k).flatMap Ob.cells := by
  rcases Nat.lt_or_ge k l.length with hk | hk
  · have e : l.flatMap Ob.cells = (l.take k).flatMap Ob.cells ++ (l.drop k).flatMap Ob.cells := by rw [← List.flatMap_append, List.take_append_drop]
    have hl : ((l.take k).flatMap Ob.cells).length = k * 8 := by rw [obs_len, List.length_take]; congr 1; omega
    rw [e, ← hl, List.take_left]
  · rw [List.take_of_length_le (by rw [obs_len]; omega), List.take_of_length_le hk]
/-- the row behind the copy -/
theorem roll_row {cur : List Value} {l : List Ob} {n u o : Nat} (hn : n ≤ l.length) (ho : o = (l.length - n) * 8) (ht : cur.take (l.length * 8) = l.flatMap Ob.cells) :
    (cur.take o ++ (rot u (l.drop (l.length - n))).flatMap Ob.cells ++ cur.drop (o + n * 8)).take (l.length * 8) = (rol n u l).flatMap Ob.cells := by
  have h1 : cur.take o = (l.take (l.length - n)).flatMap Ob.cells := by
    rw [ho, ← flat_take, ← ht, List.take_take, Nat.min_eq_left (by omega)]
  have hl : (cur.take o ++ (rot u (l.drop (l.length - n))).flatMap Ob.cells).length = l.length * 8 := by
    rw [List.length_append, h1, obs_len, obs_len, rot_len, List.length_take, List.length_drop]; omega
  rw [List.take_append_of_le_length (by omega), List.take_of_length_le (by omega), h1]
  unfold rol
  rw [List.flatMap_append]
theorem src_drop {w : World} {g of : Nat} {t : List Ob} (h : SrcO w (some ⟨g, of, none⟩) t) (d : Nat) : SrcO w (some ⟨g, of + d * 8, none⟩) (t.drop d) := by
  by_cases hd : t.length ≤ d
  · exact .inl (List.drop_eq_nil_of_le hd)
  refine .inr ⟨_, rfl, fun j z hz => ?_⟩
  rw [Addr.add_lit]
  have e2 : t.flatMap Ob.cells = (t.take d).flatMap Ob.cells ++ (t.drop d).flatMap Ob.cells := by rw [← List.flatMap_append, List.take_append_drop]
  have e3 : ((t.take d).flatMap Ob.cells).length = d * 8 := by rw [obs_len, List.length_take]; congr 1; omega
  have := h.some (d * 8 + j) z (by rw [e2, List.getElem?_append_right (by omega), e3, ← hz]; congr 1; omega)
  rw [Addr.add_lit, ← Nat.add_assoc] at this
  exact this
theorem roll_end {O : Nat → Prop} {w w3 w4 : World} {s g lc n u o : Nat} {most ov un : Int} {l : List Ob} {cur : Array Value} (h : Sk O w s most ov un l) (hk : SkC w s (.slice (some ⟨g, 0, none⟩) l.length lc) most ov un) (hl : SL w (.slice (some ⟨g, 0, none⟩) l.length lc) l) (hO : ∀ k, isB (.slice (some ⟨g, 0, none⟩) l.length lc) k → O k)
    (hb : Below w.heap.size w w3) (hn : n ≤ l.length) (ho : o = (l.length - n) * 8) (hc1 : l.length ≤ lc) (hc2 : lc ≤ maxLen) (hc3 : lc * 8 ≤ cur.size) (ht : cur.toList.take (l.length * 8) = l.flatMap Ob.cells)
    (h4 : w4.heap[g]? = some (.cells (cur.toList.take o ++ (rot u (l.drop (l.length - n))).flatMap Ob.cells ++ cur.toList.drop (o + n * 8)).toArray 40 (0, 0)) ∧ (∀ k, k ≠ g → w4.heap[k]? = w3.heap[k]?) ∧ w4.heap.size = w3.heap.size ∧ w4.os = w3.os ∧ w4.tape = w3.tape ∧ w4.output = w3.output) : SkP O w s most ov un (rol n u l) w4 := by
  obtain ⟨b1, b2, b3, b4, b5, b6⟩ := h4
  have hne := sl_ne hl hk g rfl
  have hz := hb.size
  have hgl : g < w.heap.size := hl.lt rfl
  have hrl := rol_len n u l
  have hcl : cur.toList.length = cur.size := Array.length_toList
  have hlen : (cur.toList.take o ++ (rot u (l.drop (l.length - n))).flatMap Ob.cells ++ cur.toList.drop (o + n * 8)).length = cur.size := by
    simp only [List.length_append, List.length_take, List.length_drop, obs_len, rot_len]
    omega
  refine ⟨O, ⟨h.os, fun k hk2 => by rw [b3]; have := h.olt k hk2; omega, ⟨.slice (some ⟨g, 0, none⟩) l.length lc, ?_, ?_, hO⟩, h.m0, h.m1, by rw [hrl]; exact h.fit, by rw [hrl]; exact h.few⟩, ⟨b4.trans hb.os, b5.trans hb.tape, b6.trans hb.output, by rw [b3]; exact hz, fun k hk2 hn2 => ?_⟩, fun _ e => .inl e⟩
  · rw [b2 s (fun e => hne e.symm)]
    exact (hb.block s h.lt).trans hk
  · have := roll_row (u := u) hn ho ht
    rw [← hrl]
    refine SLc.sl ⟨_, b1, by rw [hrl]; exact hc1, hc2, ?_, by rw [hrl]; exact this⟩
    rw [List.size_toArray, hlen]; exact hc3
  · rw [b2 k (fun e => hn2 (by rw [e]; exact hO g rfl))]
    exact hb.block k hk2
section
variable {O : Nat → Prop} {w : World} {s : Nat} {most ov un : Int} {l : List Ob}
set_option maxRecDepth 100000
set_option maxHeartbeats 1000000
theorem roll_no {i j x : Int} (h : Sk O w s most ov un l) (hp : Calls Try.prog 95 #[.pointer (some ⟨s, 0, none⟩), .int .i64 i] w fun e w' => e = .returned (.tuple #[.slice none 0 0, .bool false, .int .i64 x]) ∧ ∃ q, w' = w.drewN q) :
    Calls Try.prog 58 #[.pointer (some ⟨s, 0, none⟩), .int .i64 i, .int .i64 j] w fun e w' => e = .returned (.int .i64 x) ∧ SkP O w s most ov un l w' := by
  have HP := Lib.hid hp
  have HK := Lib.hid (fun q => h.keep (below_draw (Below.refl _ _) q))
  clear h hp
  go_enter Try.func58, Try.ntmps58
  go_wp2_with fail
  refine HP.out.mono ?_; rintro e w1 ⟨rfl, q, rfl⟩
  go_wp2_with fail
  go_ret
  exact ⟨rfl, HK.out q⟩
theorem roll_zero {j : Int} (h : Sk O w s most ov un l) : Calls Try.prog 58 #[.pointer (some ⟨s, 0, none⟩), .int .i64 0, .int .i64 j] w fun e w' => e = .returned (.int .i64 0) ∧ SkP O w s most ov un l w' := by
  obtain ⟨la, lc, hk, hl, hO, _, hcap⟩ := h.skc
  have HT := Lib.hid (top_any hl hk hcap h.few (i := 0) (Nat.zero_le _))
  have HK := Lib.hid (fun q => h.keep (below_draw (Below.refl _ _) q))
  clear h hk hl hO hcap
  go_enter Try.func58, Try.ntmps58
  go_wp2_with fail
  refine HT.out.mono ?_; rintro e w1 ⟨ta, tc, q, rfl, _, _, rfl⟩
  go_wp2_with fail
  go_ret
  exact ⟨rfl, HK.out q⟩
theorem roll_yes {n : Nat} {j : Int} (h : Sk O w s most ov un l) (h0 : 0 < n) (hn : n ≤ l.length) : Calls Try.prog 58 #[.pointer (some ⟨s, 0, none⟩), .int .i64 n, .int .i64 j] w fun e w' => e = .returned (.int .i64 0) ∧ SkP O w s most ov un (rol n (upOf n j) l) w' := by
  obtain ⟨la, lc, hk, hl, hO, _, hcap⟩ := h.skc
  obtain ⟨g, rfl⟩ := yes_row hl (i := 0) (by omega)
  have hfew := h.few
  have HT := Lib.hid (top_ok hk hcap hfew hn)
  have hup := up_code h0 j
  have hlt := upOf_lt h0 j
  generalize upOf n j = u at *
  obtain ⟨d, hd⟩ : ∃ d, n - u = d := ⟨_, rfl⟩
  have ed : (n : Int) - (u : Int) = d := by omega
  have hdn : d ≤ n := by omega
  have hm1 : -(n : Int) < j.tmod n := Int.lt_tmod_of_pos j (by omega)
  have hm2 : j.tmod n < n := Int.tmod_lt_of_pos j (by omega)
  have hni : (n : Int) ≤ 50000 := by omega
  have hnp : (0 : Int) < n := by omega
  have hdt : (l.drop (l.length - n)).length = n := by rw [List.length_drop]; omega
  have hrot : rot u (l.drop (l.length - n)) = (l.drop (l.length - n)).drop d ++ (l.drop (l.length - n)).take d := by unfold rot; rw [hdt, hd]
  have HHl := Lib.hid hl
  have HEnd := Lib.hid (fun w3 w4 o cur hb ho hc1 hc2 hc3 ht h4 => roll_end (w3 := w3) (w4 := w4) (n := n) (u := u) (o := o) (cur := cur) h hk hl hO hb hn ho hc1 hc2 hc3 ht h4)
  rw [hrot] at HEnd
  go_enter Try.func58, Try.ntmps58
  clear h hk hl hO hcap hdt hrot hd
  go_wp2_with fail
  refine HT.out.mono ?_; rintro e w1 ⟨⟨of, tc, hof, htc, rfl⟩, q, rfl⟩
  have hof2 : of = (l.length - n) * 8 := by rcases hof with e | e; omega; exact e
  have HB1 := Lib.hid (below_draw (below_draw (Below.refl w.heap.size w) q) 1)
  have HLa := Lib.hid (HHl.out.below HB1.out)
  obtain ⟨cur, hg, hc1, hc2, hc3, ht⟩ := HHl.out.flat
  have HG := Lib.hid hg
  have HT2 := Lib.hid ht
  have HO2 := Lib.hid hof2
  have HC123 := Lib.hid (And.intro hc1 (And.intro hc2 hc3))
  clear hof hg ht hof2 hc1 hc2 hc3
  go_upto_region 7 with (fail)
  clear hup
  have hz1 : w.heap.size ≤ ((w.drewN q).drewN 1).heap.size := Nat.le_refl _
  have hsb : SrcO ((w.drewN q).drewN 1) (some ⟨g, of, none⟩) ((l.drop (l.length - n)).take d) := src_take (src_tail (HHl.out.below HB1.out) hn (.inr HO2.out)) d
  have hsd : SrcO ((w.drewN q).drewN 1) (some ⟨g, of, none⟩) (l.drop (l.length - n)) := src_tail (HHl.out.below HB1.out) hn (.inr HO2.out)
  have hl1 : ((l.drop (l.length - n)).drop d).length = n - d := by rw [List.length_drop, List.length_drop]; omega
  have hl2 : ((l.drop (l.length - n)).take d).length = d := by rw [List.length_take, List.length_drop]; omega
  generalize hw1 : w.drewN q = w1 at *
  by_cases htd : d = tc
  · subst htd
    have hl1 : ((l.drop (l.length - n)).drop d).length = 0 := by omega
    have hsa : SrcO (w1.drewN 1) (some ⟨g, of, none⟩) ((l.drop (l.length - n)).drop d) := by
      exact .inl (List.eq_nil_of_length_eq_zero hl1)
    have HX := concat_at (w := (w1.drewN 1).alloc (.cells #[.slice (some ⟨g, of, none⟩) 0 0, .slice (some ⟨g, of, none⟩) d d] 34)) (B := w1.heap.size) (ca := 0) (cb := d) (a := some ⟨g, of, none⟩) (b := some ⟨g, of, none⟩) (la := (l.drop (l.length - n)).drop d) (lb := (l.drop (l.length - n)).take d)
      (by rw [hl1, hl2]; exact heap_alloc_new (w1.drewN 1) _) (hsa.below (below1 _ _)) (hsb.below (below1 _ _)) (fun e => by cases e) (fun e => by cases e) (by rw [hl1, hl2]; omega)
    have HC := Lib.hid HX
    clear HX hsa
    have hwr : IntKind.i64.wrap (d : Int) = d := by rw [IntKind.wrap_i64]; omega
    refine wp_region_held_drew (S := fun _ => True) (by kernel_rfl) trivial (fun _ => ?_)
    refine take_s (i := 0) (v := ?_) rfl (by kernel_rfl) (by kernel_rfl) (by kernel_rfl) (fun _ _ _ h => h) (Or.inl ⟨by rfl, ?_⟩) trivial ?_
    rotate_left
    · intro wq _; go_simp <;> with_reducible rfl
    simp only [Act.put, List.setIfInBounds_toArray, List.set_cons_zero, List.set_cons_succ]
    refine take_s (i := 1) (v := ?_) rfl (by kernel_rfl) (by kernel_rfl) (by kernel_rfl) (fun _ _ _ h => h) (Or.inl ⟨by rfl, ?_⟩) trivial ?_
    rotate_left
    · intro wq _; go_simp <;> with_reducible rfl
    simp only [Act.put, List.setIfInBounds_toArray, List.set_cons_zero, List.set_cons_succ]
    refine take_s (i := 2) (v := ?_) rfl (by kernel_rfl) (by kernel_rfl) (by kernel_rfl) (fun _ _ _ h => h) (Or.inl ⟨by rfl, ?_⟩) trivial ?_
    rotate_left
    · intro wq _; go_simp <;> with_reducible rfl
    simp only [Act.put, List.setIfInBounds_toArray, List.set_cons_zero, List.set_cons_succ]
    refine take_s (i := 3) (v := ?_) rfl (by kernel_rfl) (by kernel_rfl) (by kernel_rfl) (fun _ _ _ h => h) (Or.inl ⟨by rfl, ?_⟩) trivial ?_
    rotate_left
    · intro wq _; go_simp <;> with_reducible rfl
    simp only [Act.put, List.setIfInBounds_toArray, List.set_cons_zero, List.set_cons_succ]
    refine take_s (i := 4) (v := ?_) rfl (by kernel_rfl) (by kernel_rfl) (by kernel_rfl) (fun _ _ _ h => h) (Or.inl ⟨by rfl, ?_⟩) trivial ?_
    rotate_left
    · intro wq _; go_simp <;> with_reducible rfl
    simp only [Act.put, List.setIfInBounds_toArray, List.set_cons_zero, List.set_cons_succ]
    refine take_s (i := 5) (v := ?_) rfl (by kernel_rfl) (by kernel_rfl) (by kernel_rfl) (fun _ _ _ h => h) (Or.inl ⟨by rfl, ?_⟩) trivial ?_
    rotate_left
    · intro wq _; go_simp <;> with_reducible rfl
    simp only [Act.put, List.setIfInBounds_toArray, List.set_cons_zero, List.set_cons_succ]
    refine take_s (i := 6) (v := ?_) rfl (by kernel_rfl) (by kernel_rfl) (by kernel_rfl) (fun _ _ _ h => h) (Or.inl ⟨by rfl, ?_⟩) trivial ?_
    rotate_left
    · intro wq _; go_simp <;> with_reducible rfl
    simp only [Act.put, List.setIfInBounds_toArray, List.set_cons_zero, List.set_cons_succ]
    refine take_s (i := 7) (v := ?_) rfl (by kernel_rfl) (by kernel_rfl) (by kernel_rfl) (fun _ _ _ h => h) (Or.inl ⟨by rfl, ?_⟩) trivial ?_
    rotate_left
    · intro wq _; go_simp <;> with_reducible rfl
    simp only [Act.put, List.setIfInBounds_toArray, List.set_cons_zero, List.set_cons_succ]
    refine take_s (i := 8) (v := ?_) rfl (by kernel_rfl) (by kernel_rfl) (by kernel_rfl) (fun _ _ _ h => h) (Or.inl ⟨by rfl, ?_⟩) trivial ?_
    rotate_left
    · intro wq _; go_simp <;> with_reducible rfl
    simp only [Act.put, List.setIfInBounds_toArray, List.set_cons_zero, List.set_cons_succ]
    refine take_s (i := 9) (v := ?_) rfl (by kernel_rfl) (by kernel_rfl) (by kernel_rfl) (fun _ _ _ h => h) (Or.inl ⟨by rfl, ?_⟩) trivial ?_
    rotate_left
    · intro wq _; go_simp <;> with_reducible rfl
    simp only [Act.put, List.setIfInBounds_toArray, List.set_cons_zero, List.set_cons_succ]
    refine take_s (i := 10) (v := ?_) rfl (by kernel_rfl) (by kernel_rfl) (by kernel_rfl) (fun _ _ _ h => h) (Or.inl ⟨by rfl, ?_⟩) trivial ?_
    rotate_left
    · intro wq _; go_simp <;> with_reducible rfl
    simp only [Act.put, List.setIfInBounds_toArray, List.set_cons_zero, List.set_cons_succ]
    refine wpAnyH_ready (rs := [11]) (by kernel_rfl) (by simp) ?_
    refine cons_s rfl (fun Ka hKa => ?_) AllReadyH.nil
    go_simp
    refine hKa.out _ _ trivial (fun _ => ?_)
    clear hKa Ka
    try simp only [Act.put, List.setIfInBounds_toArray, List.set_cons_zero, List.set_cons_succ]
    refine wpAnyH_ready (rs := [12]) (by kernel_rfl) (by simp) ?_
    refine cons_s rfl (fun Ka hKa => ?_) AllReadyH.nil
    go_simp
    clear hwr
    refine HC.out.mono ?_; rintro e w3 ⟨v, rfl, hn3⟩
    have hb3 := HB1.out.trans ((below1 (w1.drewN 1) (.cells #[.slice (some ⟨g, of, none⟩) 0 0, .slice (some ⟨g, of, none⟩) d d] 34)).trans ((hn3.2.1).mono (by simp)) |>.mono hz1)
    obtain ⟨va, vc, rfl, _⟩ := hn3.1.form
    have hlt3 : ((l.drop (l.length - n)).drop d ++ (l.drop (l.length - n)).take d).length = n := by rw [List.length_append, hl1, hl2]; omega
    obtain ⟨w4, hr, h4⟩ := copyO_run (c := vc) (dc := d) (o := of) hn3.1.src hlt3 h0 ((hb3.block g (Array.getElem?_eq_some_iff.1 HG.out).1).trans HG.out) (by rw [HO2.out]; have := HC123.out; omega)
    have HP := Lib.hid (HEnd.out w3 w4 of cur hb3 HO2.out HC123.out.1 HC123.out.2.1 HC123.out.2.2 HT2.out h4)
    rw [hlt3]
    have HR := Lib.hid hr
    clear hn3 hb3 hr h4 hlt3
    refine hKa.out _ _ trivial (fun _ => ?_)
    clear hKa Ka
    try simp only [Act.put, List.setIfInBounds_toArray, List.set_cons_zero, List.set_cons_succ]
    refine wpAnyH_ready (rs := [13]) (by kernel_rfl) (by simp) ?_
    refine cons_s rfl (fun Kb hKb => ?_) AllReadyH.nil
    rw [if_pos (by rfl)]
    refine wp_copy_run7 _ (.tmp 30) (.tmp 42) 34 34 3 (.int .i64 n) rfl rfl _ _ rfl rfl w4 HR.out ?_
    refine hKb.out _ _ trivial (fun _ => ?_)
    clear hKb Kb
    try simp only [Act.put, List.setIfInBounds_toArray, List.set_cons_zero, List.set_cons_succ]
    refine wpAnyH_done (by kernel_rfl) ?_ _
    go_wp2_with fail
    go_ret
    exact ⟨rfl, HP.out⟩
  · have hsa : SrcO (w1.drewN 1) (some ⟨g, of + d * 8, none⟩) ((l.drop (l.length - n)).drop d) := by
      exact src_drop hsd d
    have HX := concat_at (w := (w1.drewN 1).alloc (.cells #[.slice (some ⟨g, of + d * 8, none⟩) (n - d) (tc - d), .slice (some ⟨g, of, none⟩) d tc] 34)) (B := w1.heap.size) (ca := (tc - d)) (cb := tc) (a := some ⟨g, of + d * 8, none⟩) (b := some ⟨g, of, none⟩) (la := (l.drop (l.length - n)).drop d) (lb := (l.drop (l.length - n)).take d)
      (by rw [hl1, hl2]; exact heap_alloc_new (w1.drewN 1) _) (hsa.below (below1 _ _)) (hsb.below (below1 _ _)) (fun e => by cases e) (fun e => by cases e) (by rw [hl1, hl2]; omega)
    have HC := Lib.hid HX
    clear HX hsa
    have hdtc : d ≤ tc := by omega
    have hif : (if tc = d then (some (⟨g, of, none⟩ : Addr)) else some ⟨g, of + d * 8, none⟩) = some ⟨g, of + d * 8, none⟩ := if_neg (fun e => htd e.symm)
    have hwr : IntKind.i64.wrap (d : Int) = d := by rw [IntKind.wrap_i64]; omega
    refine wp_region_held_drew (S := fun _ => True) (by kernel_rfl) trivial (fun _ => ?_)
    refine take_s (i := 0) (v := ?_) rfl (by kernel_rfl) (by kernel_rfl) (by kernel_rfl) (fun _ _ _ h => h) (Or.inl ⟨by rfl, ?_⟩) trivial ?_
    rotate_left
    · intro wq _; go_simp <;> with_reducible rfl
    simp only [Act.put, List.setIfInBounds_toArray, List.set_cons_zero, List.set_cons_succ]
    refine take_s (i := 1) (v := ?_) rfl (by kernel_rfl) (by kernel_rfl) (by kernel_rfl) (fun _ _ _ h => h) (Or.inl ⟨by rfl, ?_⟩) trivial ?_
    rotate_left
    · intro wq _; go_simp <;> with_reducible rfl
    simp only [Act.put, List.setIfInBounds_toArray, List.set_cons_zero, List.set_cons_succ]
    refine take_s (i := 2) (v := ?_) rfl (by kernel_rfl) (by kernel_rfl) (by kernel_rfl) (fun _ _ _ h => h) (Or.inl ⟨by rfl, ?_⟩) trivial ?_
    rotate_left
    · intro wq _; go_simp <;> with_reducible rfl
    simp only [Act.put, List.setIfInBounds_toArray, List.set_cons_zero, List.set_cons_succ]
    refine take_s (i := 3) (v := ?_) rfl (by kernel_rfl) (by kernel_rfl) (by kernel_rfl) (fun _ _ _ h => h) (Or.inl ⟨by rfl, ?_⟩) trivial ?_
    rotate_left
    · intro wq _; go_simp <;> with_reducible rfl
    simp only [Act.put, List.setIfInBounds_toArray, List.set_cons_zero, List.set_cons_succ]
    refine take_s (i := 4) (v := ?_) rfl (by kernel_rfl) (by kernel_rfl) (by kernel_rfl) (fun _ _ _ h => h) (Or.inl ⟨by rfl, ?_⟩) trivial ?_
    rotate_left
    · intro wq _; go_simp <;> with_reducible rfl
    simp only [Act.put, List.setIfInBounds_toArray, List.set_cons_zero, List.set_cons_succ]
    refine take_s (i := 5) (v := ?_) rfl (by kernel_rfl) (by kernel_rfl) (by kernel_rfl) (fun _ _ _ h => h) (Or.inl ⟨by rfl, ?_⟩) trivial ?_
    rotate_left
    · intro wq _; go_simp <;> with_reducible rfl
    simp only [Act.put, List.setIfInBounds_toArray, List.set_cons_zero, List.set_cons_succ]
    refine take_s (i := 6) (v := ?_) rfl (by kernel_rfl) (by kernel_rfl) (by kernel_rfl) (fun _ _ _ h => h) (Or.inl ⟨by rfl, ?_⟩) trivial ?_
    rotate_left
    · intro wq _; go_simp <;> with_reducible rfl
    simp only [Act.put, List.setIfInBounds_toArray, List.set_cons_zero, List.set_cons_succ]
    refine take_s (i := 7) (v := ?_) rfl (by kernel_rfl) (by kernel_rfl) (by kernel_rfl) (fun _ _ _ h => h) (Or.inl ⟨by rfl, ?_⟩) trivial ?_
    rotate_left
    · intro wq _; go_simp <;> with_reducible rfl
    simp only [Act.put, List.setIfInBounds_toArray, List.set_cons_zero, List.set_cons_succ]
    refine take_s (i := 8) (v := ?_) rfl (by kernel_rfl) (by kernel_rfl) (by kernel_rfl) (fun _ _ _ h => h) (Or.inl ⟨by rfl, ?_⟩) trivial ?_
    rotate_left
    · intro wq _; go_simp <;> with_reducible rfl
    simp only [Act.put, List.setIfInBounds_toArray, List.set_cons_zero, List.set_cons_succ]
    refine take_s (i := 9) (v := ?_) rfl (by kernel_rfl) (by kernel_rfl) (by kernel_rfl) (fun _ _ _ h => h) (Or.inl ⟨by rfl, ?_⟩) trivial ?_
    rotate_left
    · intro wq _; go_simp <;> with_reducible rfl
    simp only [Act.put, List.setIfInBounds_toArray, List.set_cons_zero, List.set_cons_succ]
    refine take_s (i := 10) (v := ?_) rfl (by kernel_rfl) (by kernel_rfl) (by kernel_rfl) (fun _ _ _ h => h) (Or.inl ⟨by rfl, ?_⟩) trivial ?_
    rotate_left
    · intro wq _; go_simp <;> with_reducible rfl
    simp only [Act.put, List.setIfInBounds_toArray, List.set_cons_zero, List.set_cons_succ]
    refine wpAnyH_ready (rs := [11]) (by kernel_rfl) (by simp) ?_
    refine cons_s rfl (fun Ka hKa => ?_) AllReadyH.nil
    go_simp
    refine hKa.out _ _ trivial (fun _ => ?_)
    clear hKa Ka
    try simp only [Act.put, List.setIfInBounds_toArray, List.set_cons_zero, List.set_cons_succ]
    refine wpAnyH_ready (rs := [12]) (by kernel_rfl) (by simp) ?_
    refine cons_s rfl (fun Ka hKa => ?_) AllReadyH.nil
    go_simp
    clear hwr hif
    refine HC.out.mono ?_; rintro e w3 ⟨v, rfl, hn3⟩
    have hb3 := HB1.out.trans ((below1 (w1.drewN 1) (.cells #[.slice (some ⟨g, of + d * 8, none⟩) (n - d) (tc - d), .slice (some ⟨g, of, none⟩) d tc] 34)).trans ((hn3.2.1).mono (by simp)) |>.mono hz1)
    obtain ⟨va, vc, rfl, _⟩ := hn3.1.form
    have hlt3 : ((l.drop (l.length - n)).drop d ++ (l.drop (l.length - n)).take d).length = n := by rw [List.length_append, hl1, hl2]; omega
    obtain ⟨w4, hr, h4⟩ := copyO_run (c := vc) (dc := tc) (o := of) hn3.1.src hlt3 h0 ((hb3.block g (Array.getElem?_eq_some_iff.1 HG.out).1).trans HG.out) (by rw [HO2.out]; have := HC123.out; omega)
    have HP := Lib.hid (HEnd.out w3 w4 of cur hb3 HO2.out HC123.out.1 HC123.out.2.1 HC123.out.2.2 HT2.out h4)
    rw [hlt3]
    have HR := Lib.hid hr
    clear hn3 hb3 hr h4 hlt3
    refine hKa.out _ _ trivial (fun _ => ?_)
    clear hKa Ka
    try simp only [Act.put, List.setIfInBounds_toArray, List.set_cons_zero, List.set_cons_succ]
    refine wpAnyH_ready (rs := [13]) (by kernel_rfl) (by simp) ?_
    refine cons_s rfl (fun Kb hKb => ?_) AllReadyH.nil
    rw [if_pos (by rfl)]
    refine wp_copy_run7 _ (.tmp 30) (.tmp 42) 34 34 3 (.int .i64 n) rfl rfl _ _ rfl rfl w4 HR.out ?_
    refine hKb.out _ _ trivial (fun _ => ?_)
    clear hKb Kb
    try simp only [Act.put, List.setIfInBounds_toArray, List.set_cons_zero, List.set_cons_succ]
    refine wpAnyH_done (by kernel_rfl) ?_ _
    go_wp2_with fail
    go_ret
    exact ⟨rfl, HP.out⟩
end
end Go.Proofs.Ytcmoppliipdfgaa
