/-
  The law ConvLocks, walked.
-/
import Derived.Test.YtfilbfenpdaahaaGreatDoorCnvLk
import Derived.Test.YtfilbfenpdaahaaGreatDoorCnvTextsW
namespace Go.Proofs.YtfilbfenpdaahaaGreatDoor
open Go.RowKit
open St
open Stk
open Col
open Mm
open Cn
namespace Cv
def lstC : Obj := .cells #[.string s_readonly, .string s_executeonly, .string s_noaccess] 9
theorem lst_cell (i : Nat) (hi : i < 3) (W : World) (B : Nat) (h : W.heap[B]? = some lstC) : W.cell? ⟨B, i, none⟩ = some (.string (barN i)) := by
  match i, hi with
  | 0, _ => exact blk_cell h 0
  | 1, _ => exact blk_cell h 1
  | 2, _ => exact blk_cell h 2
/-- what a locking leaves, in one form -/
def BarF (O : Nat → Prop) (s : Nat) (k a : Int) (o : Ob) (w : World) (e : Ending) (w' : World) : Prop :=
  ∃ (er : Int) (p' : Option Addr) (n : Nat) (o' : Ob) (a' : Int), e = .returned (.tuple #[.slice p' n n, .int .i64 er]) ∧ Frm O w w' ∧ Lk O s k a' o' w' ∧ a ≤ a' ∧ ((er ≠ 0 ∧ o' = o) ∨ (er = 0 ∧ n = 1 ∧ Hnd w.heap.size p' [o'] w'))
theorem BarD.f {O : Nat → Prop} {s : Nat} {k a b : Int} {o : Ob} {w w' : World} {e : Ending} (h : BarD O s k a b o w e w') : BarF O s k a o w e w' := by
  obtain ⟨hF, ⟨er, hne, rfl, hl⟩ | ⟨o', p', rfl, hl, hh⟩⟩ := h
  · exact ⟨er, none, 0, o, a, rfl, hF, hl, Int.le_refl _, .inl ⟨hne, rfl⟩⟩
  · exact ⟨0, p', 1, o', max a b, rfl, hF, hl, Int.le_max_left _ _, .inr ⟨rfl, rfl, hh⟩⟩
theorem keep10c {W W' : World} {b c j : Nat} {ad : Addr} {i : Nat} {u0 u1 u2 u3 u4 u5 u6 u7 k0 k1 : Value} (hb : Below W.heap.size W W') (h : W.cell? ⟨b, 0, none⟩ = some u0 ∧ W.cell? ⟨b, 1, none⟩ = some u1 ∧ W.cell? ⟨b, 2, none⟩ = some u2 ∧ W.cell? ⟨b, 3, none⟩ = some u3 ∧ W.cell? ⟨b, 4, none⟩ = some u4 ∧ W.cell? ⟨b, 5, none⟩ = some u5 ∧ W.cell? ⟨b, 6, none⟩ = some u6 ∧ W.cell? ⟨b, 7, none⟩ = some u7 ∧ W.cell? ⟨c, j, none⟩ = some k0 ∧ W.cell? (ad.add i) = some k1) : W'.cell? ⟨b, 0, none⟩ = some u0 ∧ W'.cell? ⟨b, 1, none⟩ = some u1 ∧ W'.cell? ⟨b, 2, none⟩ = some u2 ∧ W'.cell? ⟨b, 3, none⟩ = some u3 ∧ W'.cell? ⟨b, 4, none⟩ = some u4 ∧ W'.cell? ⟨b, 5, none⟩ = some u5 ∧ W'.cell? ⟨b, 6, none⟩ = some u6 ∧ W'.cell? ⟨b, 7, none⟩ = some u7 ∧ W'.cell? ⟨c, j, none⟩ = some k0 ∧ W'.cell? (ad.add i) = some k1 := by
  obtain ⟨a0, a1, a2, a3, a4, a5, a6, a7, b0, b1⟩ := h
  exact ⟨(hb.cell (World.block_lt_of_cell? W _ a0)).trans a0, (hb.cell (World.block_lt_of_cell? W _ a1)).trans a1, (hb.cell (World.block_lt_of_cell? W _ a2)).trans a2, (hb.cell (World.block_lt_of_cell? W _ a3)).trans a3, (hb.cell (World.block_lt_of_cell? W _ a4)).trans a4, (hb.cell (World.block_lt_of_cell? W _ a5)).trans a5, (hb.cell (World.block_lt_of_cell? W _ a6)).trans a6, (hb.cell (World.block_lt_of_cell? W _ a7)).trans a7, (hb.cell (World.block_lt_of_cell? W _ b0)).trans b0, (hb.cell (World.block_lt_of_cell? W _ b1)).trans b1⟩
theorem cell_frm {O : Nat → Prop} {W W' : World} {a : Addr} {v : Value} (hF : Frm O W W') (hO : ¬ O a.block) (h : W.cell? a = some v) : W'.cell? a = some v :=
  (World.cell?_of_block (w := W) (hF.block a.block (World.block_lt_of_cell? W _ h) hO)).trans h
theorem keep10f {O : Nat → Prop} {W W' : World} {b c j : Nat} {ad : Addr} {i : Nat} {u0 u1 u2 u3 u4 u5 u6 u7 k0 k1 : Value} (hF : Frm O W W') (hb : ¬ O b) (hc : ¬ O c) (ha : ¬ O (ad.add i).block) (h : W.cell? ⟨b, 0, none⟩ = some u0 ∧ W.cell? ⟨b, 1, none⟩ = some u1 ∧ W.cell? ⟨b, 2, none⟩ = some u2 ∧ W.cell? ⟨b, 3, none⟩ = some u3 ∧ W.cell? ⟨b, 4, none⟩ = some u4 ∧ W.cell? ⟨b, 5, none⟩ = some u5 ∧ W.cell? ⟨b, 6, none⟩ = some u6 ∧ W.cell? ⟨b, 7, none⟩ = some u7 ∧ W.cell? ⟨c, j, none⟩ = some k0 ∧ W.cell? (ad.add i) = some k1) : W'.cell? ⟨b, 0, none⟩ = some u0 ∧ W'.cell? ⟨b, 1, none⟩ = some u1 ∧ W'.cell? ⟨b, 2, none⟩ = some u2 ∧ W'.cell? ⟨b, 3, none⟩ = some u3 ∧ W'.cell? ⟨b, 4, none⟩ = some u4 ∧ W'.cell? ⟨b, 5, none⟩ = some u5 ∧ W'.cell? ⟨b, 6, none⟩ = some u6 ∧ W'.cell? ⟨b, 7, none⟩ = some u7 ∧ W'.cell? ⟨c, j, none⟩ = some k0 ∧ W'.cell? (ad.add i) = some k1 := by
  obtain ⟨a0, a1, a2, a3, a4, a5, a6, a7, b0, b1⟩ := h
  exact ⟨cell_frm hF hb a0, cell_frm hF hb a1, cell_frm hF hb a2, cell_frm hF hb a3, cell_frm hF hb a4, cell_frm hF hb a5, cell_frm hF hb a6, cell_frm hF hb a7, cell_frm hF hc b0, cell_frm hF ha b1⟩
theorem bx_put {O : Nat → Prop} {w0 W W' : World} {BL Bo : Nat} {L : Obj} {o o' : Ob} (h : Bx O w0 [(BL, L), (Bo, obC o)] W) (hp : Put8 W Bo 27 (.int .i64 o'.kind) (.bool o'.exec) (.int .i64 o'.acc) (.int .i64 o'.n) (.string o'.name) (.int .i64 o'.ref) (.int .i64 o'.frm) (.int .i64 o'.len) W') (h0 : w0.heap.size ≤ Bo) (hne : BL ≠ Bo) : Bx O w0 [(BL, L), (Bo, obC o')] W' := by
  refine ⟨⟨hp.os.trans h.1.os, hp.tape.trans h.1.tape, hp.output.trans h.1.output, by rw [hp.size]; exact h.1.size, fun k hk hO => (hp.far k (by omega)).trans (h.1.block k hk hO)⟩, fun q hq => ?_⟩
  simp only [List.mem_cons, List.mem_nil_iff, or_false] at hq
  rcases hq with rfl | rfl
  · exact ⟨(h.2 (BL, L) (by simp)).1, (hp.far BL hne).trans h.b0⟩
  · exact ⟨(h.2 (Bo, obC o) (by simp)).1, hp.blk⟩
theorem hnd_keep {O : Nat → Prop} {N : Nat} {p : Option Addr} {l : List Ob} {w w' : World} (h : Hnd N p l w) (hO : ∀ q, O q → q < N) (hF : Frm O w w') : Hnd N p l w' :=
  h.frm (fun k h1 h2 => hF.block k h2 (fun e => by have := hO k e; omega)) hF.size (Nat.le_refl _)
theorem lk_of_bld {O : Nat → Prop} {w w' : World} {s : Nat} {t : Tg} {o : Ob} {v : Vl} (h : BldOk O w s t o v w') (h6 : 6 ≤ t.kind) (h8 : t.kind ≤ 8) :
    ∃ O', Lk O' s t.kind t.acc o w' ∧ ∀ k, O' k → O k ∨ w.heap.size ≤ k := by
  obtain ⟨O', fr, G, hr, ho, hbad, hm⟩ := h
  have hg := Tg.good hbad
  have ha : 0 ≤ t.acc ∧ t.acc ≤ 3 := by
    have h1 := of_decide_eq_false hg.1
    have h2 := of_decide_eq_false hg.2.1
    omega
  refine ⟨O', ⟨ha, ?_⟩, ho⟩
  rcases hm with ⟨hk, rfl, ⟨l, rfl⟩, S, rfl, hS⟩ | ⟨hk, h0, h20, rfl, ⟨l, rfl⟩, hv⟩ | ⟨hk, h0, h20, rfl, ⟨l, rfl⟩, hv⟩ | ⟨k6, k7, k8, rfl, rfl, rfl⟩
  · refine .inl ⟨.inl hk, by rw [hk], rfl, fr, _, hr, ?_⟩
    have ht : tld [(⟨6, t.text.data.toList, [], [], 0, 0⟩, l)] ⟨6, t.exec, t.acc, 0, ⟨#[]⟩, 1, 0, t.text.size⟩ 6 = some 0 := by
      simp [tld, Th.length, liesB]
    unfold valid
    simp [ht]
  · obtain ⟨k, hk2⟩ : ∃ k : Nat, t.n = k := ⟨t.n.toNat, by omega⟩
    refine .inl ⟨.inr hk, by rw [hk], rfl, fr, _, hr, ?_⟩
    have ht : tld [(⟨7, [], List.replicate t.n.toNat nul, [], 0, 0⟩, l)] ⟨7, t.exec, t.acc, 0, ⟨#[]⟩, 1, 0, t.n⟩ 7 = some 0 := by
      rw [hk2]
      simp [tld, Th.length, liesB]
    unfold valid
    simp [ht]
  · exact .inr ⟨hk, fr, t.n, l, t.exec, hr, rfl⟩
  · omega
set_option maxRecDepth 100000 in
set_option maxHeartbeats 1000000 in
theorem locks_walk (t : Tg) (p : Option Addr) (l : List UInt8) (c : Nat) (w : World) (ht : Tab w) (hsrc : Src w p l) (hlc : l.length ≤ maxLen) :
    Calls Tryz.prog 5 #[t.val, .slice p l.length c] w fun e w' => e = .returned (.bool true) ∧ Below w.heap.size w w' := by
  have HA := Lib.hid (fun w2 (hb : Below w.heap.size w w2) => answers10 w2 (Tab.below ht hb))
  have H1 := Lib.hid (below1 w (tgC t))
  have hs1 : (w.alloc (tgC t)).heap.size = w.heap.size + 1 := by simp
  have hn1 := new_at 500 (w.alloc (tgC t)) (by decide) (by decide)
  rw [hs1] at hn1
  have HN := Lib.hid hn1
  unfold tgC at HN
  have HSrc := Lib.hid hsrc
  have HLen := Lib.hid hlc
  clear hs1 hn1 hsrc hlc
  unfold Tg.val
  clear ht
  go_enter Tryz.func5, Tryz.ntmps5
  go_wp2_with fail
  refine HN.out.mono ?_; rintro e w1 ⟨rfl, hr1, hb1⟩
  have hr2 := hr1.below (below1 w1 (memC 500 0 (.slice none 0 0) (.slice none 0 0) (.slice none 0 0) 0))
  have hM2 : (w1.alloc (memC 500 0 (.slice none 0 0) (.slice none 0 0) (.slice none 0 0) 0)).heap[w1.heap.size]? = _ := heap_alloc_new _ _
  have hb0 : Below w.heap.size w w1 := H1.out.trans (hb1.mono (by omega))
  have hB2 := bthen hb0 (below1 w1 (memC 500 0 (.slice none 0 0) (.slice none 0 0) (.slice none 0 0) 0))
  have hltw : w.heap.size + 1 < w1.heap.size := hr1.lt
  have HBd := Lib.hid (build_at hr2 hM2 (fun e => by omega) t)
  have htc : w1.heap[w.heap.size]? = some (tgC t) := (hb1.block _ (by omega)).trans (heap_alloc_new w _)
  have HB2 := Lib.hid hB2
  unfold memC Tg.val at HBd
  unfold memC at HB2
  unfold tgC at htc
  have HTc := Lib.hid htc
  have t0 : w1.cell? ⟨w.heap.size, 0, none⟩ = some (.int .i64 t.kind) := blk_cell htc 0
  have t1 : w1.cell? ⟨w.heap.size, 1, none⟩ = some (.int .i64 t.n) := blk_cell htc 1
  have t2 : w1.cell? ⟨w.heap.size, 2, none⟩ = some (.int .i64 t.acc) := blk_cell htc 2
  have t3 : w1.cell? ⟨w.heap.size, 3, none⟩ = some (.string t.name) := blk_cell htc 3
  have t4 : w1.cell? ⟨w.heap.size, 4, none⟩ = some (.string t.text) := blk_cell htc 4
  have t5 : w1.cell? ⟨w.heap.size, 5, none⟩ = some (.bool t.exec) := blk_cell htc 5
  have HL := Lib.hid hltw
  have hlt0 : w.heap.size < w1.heap.size := by omega
  clear hr1 hb1 hb0 hr2 hM2 hB2 htc hltw HN H1
  go_wp2_with fail
  refine HBd.out.mono ?_; rintro e w3 ⟨o, v, ok, rfl, ⟨ps, pa, pd, ep1, ep2, ep3⟩, hF3, hok⟩
  have hB3 : Below w.heap.size w w3 := HB2.out.trans (hF3.below HB2.out.size (fun k hk e => by
    have := HL.out
    rcases e with e | e
    · omega
    · omega))
  have htk : w3.heap[w.heap.size]? = some (tgC t) := (hF3.block w.heap.size (by simp; omega) (fun e => by
    have := HL.out
    rcases e with e | e
    · omega
    · omega)).trans (((below1 w1 _).block _ hlt0).trans HTc.out)
  clear t0 t1 t2 t3 t4 t5 HBd hF3 HTc
  unfold tgC at htk
  have HOk := Lib.hid hok
  have HB3 := Lib.hid hB3
  unfold Ob.val Vl.val
  rw [ep1, ep2, ep3]
  have HW1 := Lib.hid (show w.heap.size ≤ w1.heap.size from by omega)
  have HP := Lib.hid (And.intro ep1 (And.intro ep2 ep3))
  clear hok hB3 ep1 ep2 ep3 hlt0 HL HB2
  go_wp2_with fail
  have hbo := (below1 w3 (.cells #[.int .i64 o.kind, .bool o.exec, .int .i64 o.acc, .int .i64 o.n, .string o.name, .int .i64 o.ref, .int .i64 o.frm, .int .i64 o.len] 27))
  have e4 : (w3.alloc (.cells #[.int .i64 o.kind, .bool o.exec, .int .i64 o.acc, .int .i64 o.n, .string o.name, .int .i64 o.ref, .int .i64 o.frm, .int .i64 o.len] 27)).heap.size = w3.heap.size + 1 := by simp
  have hbv := (below1 (w3.alloc (.cells #[.int .i64 o.kind, .bool o.exec, .int .i64 o.acc, .int .i64 o.n, .string o.name, .int .i64 o.ref, .int .i64 o.frm, .int .i64 o.len] 27)) (.cells #[.int .i64 v.kind, .bool v.exec, .int .i64 v.acc, .int .i64 v.n, .string v.name, .pointer ps, .pointer pa, .pointer pd, .int .i64 v.frm, .int .i64 v.len] 53))
  have ho4 := (hbv.block w3.heap.size (by rw [e4]; omega)).trans (heap_alloc_new w3 (.cells #[.int .i64 o.kind, .bool o.exec, .int .i64 o.acc, .int .i64 o.n, .string o.name, .int .i64 o.ref, .int .i64 o.frm, .int .i64 o.len] 27))
  have hb34 := bthen hbo hbv
  clear hbo e4 hbv
  generalize (w3.alloc (.cells #[.int .i64 o.kind, .bool o.exec, .int .i64 o.acc, .int .i64 o.n, .string o.name, .int .i64 o.ref, .int .i64 o.frm, .int .i64 o.len] 27)).alloc (.cells #[.int .i64 v.kind, .bool v.exec, .int .i64 v.acc, .int .i64 v.n, .string v.name, .pointer ps, .pointer pa, .pointer pd, .int .i64 v.frm, .int .i64 v.len] 53) = W4 at *
  have hB4 := bthen HB3.out hb34
  refine (HA.out W4 hB4).mono ?_; rintro e w5 ⟨rfl, hb5⟩
  have hB5 := bthen hB4 hb5
  have hb35 := bthen hb34 hb5
  have ho5 := (hb5.block w3.heap.size (Array.getElem?_eq_some_iff.1 ho4).1).trans ho4
  have ht5 := (hb35.block w.heap.size (Array.getElem?_eq_some_iff.1 htk).1).trans htk
  have t0 : w5.cell? ⟨w.heap.size, 0, none⟩ = some (.int .i64 t.kind) := blk_cell ht5 0
  have HB5 := Lib.hid hB5
  have H35 := Lib.hid hb35
  have HO5 := Lib.hid ho5
  clear hB4 hb34 ho4 hb5 hB5 hb35 ho5 ht5 htk
  by_cases hq : ok = true ∧ 6 ≤ t.kind ∧ t.kind ≤ 8 ∧ l.length ≤ 20
  · obtain ⟨rfl, h6, h8, h20⟩ := hq
    obtain ⟨O', hLk, hOw⟩ := lk_of_bld (HOk.out rfl) h6 h8
    have g1 : decide (t.kind < 6) = false := decide_eq_false (by omega)
    have g2 : decide (8 < t.kind) = false := decide_eq_false (by omega)
    have g3 : decide ((20 : Int) < (l.length : Int)) = false := decide_eq_false (by omega)
    have HLk := Lib.hid hLk
    have HOw := Lib.hid hOw
    have H68 := Lib.hid (And.intro h6 (And.intro h8 h20))
    have hlk6 := hLk.same (w' := w5.alloc lstC) (by have := (below1 w5 lstC).size; exact Nat.le_trans H35.out.size this) (fun q hq _ => ((below1 w5 lstC).block q (Nat.lt_of_lt_of_le hq H35.out.size)).trans (H35.out.block q hq))
    have hbx6 : Bx O' w3 [(w5.heap.size, lstC), (w3.heap.size, obC o)] (w5.alloc lstC) := by
      have hl5 : w3.heap.size < w5.heap.size := (Array.getElem?_eq_some_iff.1 HO5.out).1
      refine ⟨Frm.of_below (bthen H35.out (below1 w5 lstC)), fun q hq => ?_⟩
      simp only [List.mem_cons, List.mem_nil_iff, or_false] at hq
      rcases hq with rfl | rfl
      · exact ⟨fun e => by have := hLk.olt _ e; have := H35.out.size; omega, heap_alloc_new w5 _⟩
      · exact ⟨fun e => Nat.lt_irrefl _ (hLk.olt _ e), ((below1 w5 lstC).block _ hl5).trans HO5.out⟩
    have HL6 := Lib.hid hlk6
    have HX6 := Lib.hid hbx6
    have HNO := Lib.hid (fun (k : Nat) (hk : k < w.heap.size) (e : O' k) => (show False from by
      rcases hOw k e with e | e
      · omega
      · exact Nat.lt_irrefl _ (Nat.lt_of_le_of_lt (Nat.le_trans HW1.out (Nat.le_trans (below1 w1 _).size e)) hk)))
    have HB3' := Lib.hid (fun wr (hF : Frm O' w3 wr) => (show Below w.heap.size w wr from HB3.out.trans (hF.below HB3.out.size (fun k hk e => by
      rcases hOw k e with e | e
      · omega
      · exact Nat.lt_irrefl _ (Nat.lt_of_le_of_lt (Nat.le_trans HW1.out (Nat.le_trans (below1 w1 _).size e)) hk)))))
    clear hLk hOw h6 h8 h20 HOk hlk6 hbx6 HLk
    go_wp2_with fail
    clear t0 g1 g2 g3
    go_loopw [12] (fun v wr => ∃ (i : Nat) (a : Int) (o2 : Ob), v = .int .i64 i ∧ i ≤ l.length ∧ Lk O' (w.heap.size + 1) t.kind a o2 wr ∧ Bx O' w3 [(w5.heap.size, lstC), (w3.heap.size, obC o2)] wr) (fun v _ => l.length - (intOf v).toNat)
    case atStart => exact ⟨0, t.acc, o, rfl, Nat.zero_le _, HL6.out, HX6.out⟩
    case round =>
      obtain ⟨i, a, o2, rfl, hi, hlk, hbx⟩ := hrel
      by_cases hlt : i < l.length
      · obtain ⟨z, hz⟩ : ∃ z, l[i]? = some z := ⟨_, List.getElem?_eq_getElem hlt⟩
        obtain ⟨ad, rfl, hcz⟩ : ∃ ad, p = some ad ∧ wr.cell? (ad.add i) = some (bv z) := by
          rcases HSrc.out.below (HB3'.out wr hbx.1) with e | ⟨ad, e, hx⟩
          · rw [e] at hlt; simp at hlt
          · exact ⟨ad, e, hx i z hz⟩
        obtain ⟨x0, x1, x2, x3, x4, x5, x6, x7⟩ := cellsOb hbx.b1
        have hna : ¬ O' (ad.add i).block := HNO.out _ (by
          rcases HSrc.out with e | ⟨ad', e, hx⟩
          · rw [e] at hlt; simp at hlt
          · cases e; exact World.block_lt_of_cell? w _ (hx i z hz))
        have HNa := Lib.hid hna
        clear hna
        have HAc := Lib.hid (accessL_at hlk)
        have HLk := Lib.hid hlk
        have HBx := Lib.hid hbx
        unfold Ob.val at HAc
        clear hlk hbx hz
        go_wp2_with fail
        refine HAc.out.mono ?_; rintro e w6 ⟨rfl, hb6⟩
        have hx6 := HBx.out.below hb6
        have hlk6 := HLk.out.below hb6
        clear x0 x1 x2 x3 x4 x5 x6 x7
        obtain ⟨x0, x1, x2, x3, x4, x5, x6, x7⟩ := cellsOb hx6.b1
        have hcz6 := (hb6.cell (World.block_lt_of_cell? wr _ hcz)).trans hcz
        have HLk := Lib.hid hlk6
        have HBx := Lib.hid hx6
        clear HAc hcz hlk6 hx6 hb6
        unfold bv at hcz6
        go_wp2_with fail
        have w1 : IntKind.i64.wrap (z.toNat : Int) = z.toNat := by have := z.toNat_lt; rw [IntKind.wrap_i64]; omega
        obtain ⟨j, hj3, hj⟩ : ∃ j : Nat, j < 3 ∧ (z.toNat : Int).tmod 3 = j := ⟨z.toNat % 3, Nat.mod_lt _ (by omega), by rw [Int.tmod_eq_emod_of_nonneg (by omega)]; omega⟩
        have j0 : (0 : Int) ≤ (j : Int) := by omega
        have j3 : (j : Int) < 3 := by omega
        have w2 : IntKind.i64.wrap (j : Int) = j := by rw [IntKind.wrap_i64]; omega
        have hlj := lst_cell j hj3 w6 w5.heap.size HBx.out.b0
        have hbd : Below w6.heap.size w6 w6.drew := ⟨rfl, rfl, rfl, Nat.le_refl _, fun _ _ => rfl⟩
        have hb7 : Below w6.heap.size w6 (w6.alloc (obC o2)).drew := bthen (below1 w6 (obC o2)) ⟨rfl, rfl, rfl, Nat.le_refl _, fun _ _ => rfl⟩
        have hs7 : SrcO (w6.alloc (obC o2)).drew (some ⟨w6.heap.size, 0, none⟩) [o2] := ((hnd_of (l := [o2]) (N := 0) (w := w6) (c := _) (t := 27) (Nat.zero_le _) rfl).src).below ⟨rfl, rfl, rfl, Nat.le_refl _, fun _ _ => rfl⟩
        have HDo := Lib.hid ((bar_do (c := 1) j hj3 (HLk.out.below hb7) hs7).mono (fun e w' h => BarD.f h))
        have HB7 := Lib.hid (HBx.out.below hb7)
        have sI : w6.cell? ⟨w3.heap.size, 0, none⟩ = some (.int .i64 o2.kind) ∧ w6.cell? ⟨w3.heap.size, 1, none⟩ = some (.bool o2.exec) ∧ w6.cell? ⟨w3.heap.size, 2, none⟩ = some (.int .i64 o2.acc) ∧ w6.cell? ⟨w3.heap.size, 3, none⟩ = some (.int .i64 o2.n) ∧ w6.cell? ⟨w3.heap.size, 4, none⟩ = some (.string o2.name) ∧ w6.cell? ⟨w3.heap.size, 5, none⟩ = some (.int .i64 o2.ref) ∧ w6.cell? ⟨w3.heap.size, 6, none⟩ = some (.int .i64 o2.frm) ∧ w6.cell? ⟨w3.heap.size, 7, none⟩ = some (.int .i64 o2.len) ∧ w6.cell? ⟨w5.heap.size, j, none⟩ = some (.string (barN j)) ∧ w6.cell? (ad.add i) = some (.int .u8 z.toNat) := ⟨x0, x1, x2, x3, x4, x5, x6, x7, hlj, hcz6⟩
        have sD : w6.drew.cell? ⟨w3.heap.size, 0, none⟩ = some (.int .i64 o2.kind) ∧ w6.drew.cell? ⟨w3.heap.size, 1, none⟩ = some (.bool o2.exec) ∧ w6.drew.cell? ⟨w3.heap.size, 2, none⟩ = some (.int .i64 o2.acc) ∧ w6.drew.cell? ⟨w3.heap.size, 3, none⟩ = some (.int .i64 o2.n) ∧ w6.drew.cell? ⟨w3.heap.size, 4, none⟩ = some (.string o2.name) ∧ w6.drew.cell? ⟨w3.heap.size, 5, none⟩ = some (.int .i64 o2.ref) ∧ w6.drew.cell? ⟨w3.heap.size, 6, none⟩ = some (.int .i64 o2.frm) ∧ w6.drew.cell? ⟨w3.heap.size, 7, none⟩ = some (.int .i64 o2.len) ∧ w6.drew.cell? ⟨w5.heap.size, j, none⟩ = some (.string (barN j)) ∧ w6.drew.cell? (ad.add i) = some (.int .u8 z.toNat) := keep10c hbd sI
        have sA : (w6.alloc (.cells #[.int .i64 o2.kind, .bool o2.exec, .int .i64 o2.acc, .int .i64 o2.n, .string o2.name, .int .i64 o2.ref, .int .i64 o2.frm, .int .i64 o2.len] 27)).drew.cell? ⟨w3.heap.size, 0, none⟩ = some (.int .i64 o2.kind) ∧ (w6.alloc (.cells #[.int .i64 o2.kind, .bool o2.exec, .int .i64 o2.acc, .int .i64 o2.n, .string o2.name, .int .i64 o2.ref, .int .i64 o2.frm, .int .i64 o2.len] 27)).drew.cell? ⟨w3.heap.size, 1, none⟩ = some (.bool o2.exec) ∧ (w6.alloc (.cells #[.int .i64 o2.kind, .bool o2.exec, .int .i64 o2.acc, .int .i64 o2.n, .string o2.name, .int .i64 o2.ref, .int .i64 o2.frm, .int .i64 o2.len] 27)).drew.cell? ⟨w3.heap.size, 2, none⟩ = some (.int .i64 o2.acc) ∧ (w6.alloc (.cells #[.int .i64 o2.kind, .bool o2.exec, .int .i64 o2.acc, .int .i64 o2.n, .string o2.name, .int .i64 o2.ref, .int .i64 o2.frm, .int .i64 o2.len] 27)).drew.cell? ⟨w3.heap.size, 3, none⟩ = some (.int .i64 o2.n) ∧ (w6.alloc (.cells #[.int .i64 o2.kind, .bool o2.exec, .int .i64 o2.acc, .int .i64 o2.n, .string o2.name, .int .i64 o2.ref, .int .i64 o2.frm, .int .i64 o2.len] 27)).drew.cell? ⟨w3.heap.size, 4, none⟩ = some (.string o2.name) ∧ (w6.alloc (.cells #[.int .i64 o2.kind, .bool o2.exec, .int .i64 o2.acc, .int .i64 o2.n, .string o2.name, .int .i64 o2.ref, .int .i64 o2.frm, .int .i64 o2.len] 27)).drew.cell? ⟨w3.heap.size, 5, none⟩ = some (.int .i64 o2.ref) ∧ (w6.alloc (.cells #[.int .i64 o2.kind, .bool o2.exec, .int .i64 o2.acc, .int .i64 o2.n, .string o2.name, .int .i64 o2.ref, .int .i64 o2.frm, .int .i64 o2.len] 27)).drew.cell? ⟨w3.heap.size, 6, none⟩ = some (.int .i64 o2.frm) ∧ (w6.alloc (.cells #[.int .i64 o2.kind, .bool o2.exec, .int .i64 o2.acc, .int .i64 o2.n, .string o2.name, .int .i64 o2.ref, .int .i64 o2.frm, .int .i64 o2.len] 27)).drew.cell? ⟨w3.heap.size, 7, none⟩ = some (.int .i64 o2.len) ∧ (w6.alloc (.cells #[.int .i64 o2.kind, .bool o2.exec, .int .i64 o2.acc, .int .i64 o2.n, .string o2.name, .int .i64 o2.ref, .int .i64 o2.frm, .int .i64 o2.len] 27)).drew.cell? ⟨w5.heap.size, j, none⟩ = some (.string (barN j)) ∧ (w6.alloc (.cells #[.int .i64 o2.kind, .bool o2.exec, .int .i64 o2.acc, .int .i64 o2.n, .string o2.name, .int .i64 o2.ref, .int .i64 o2.frm, .int .i64 o2.len] 27)).drew.cell? (ad.add i) = some (.int .u8 z.toNat) := keep10c (bthen (below1 w6 (.cells #[.int .i64 o2.kind, .bool o2.exec, .int .i64 o2.acc, .int .i64 o2.n, .string o2.name, .int .i64 o2.ref, .int .i64 o2.frm, .int .i64 o2.len] 27)) ⟨rfl, rfl, rfl, Nat.le_refl _, fun _ _ => rfl⟩) sI
        unfold obC at HDo
        clear hbd hb7 hs7 hlj
        go_region_held3 (fun w' => w'.cell? ⟨w3.heap.size, 0, none⟩ = some (.int .i64 o2.kind) ∧ w'.cell? ⟨w3.heap.size, 1, none⟩ = some (.bool o2.exec) ∧ w'.cell? ⟨w3.heap.size, 2, none⟩ = some (.int .i64 o2.acc) ∧ w'.cell? ⟨w3.heap.size, 3, none⟩ = some (.int .i64 o2.n) ∧ w'.cell? ⟨w3.heap.size, 4, none⟩ = some (.string o2.name) ∧ w'.cell? ⟨w3.heap.size, 5, none⟩ = some (.int .i64 o2.ref) ∧ w'.cell? ⟨w3.heap.size, 6, none⟩ = some (.int .i64 o2.frm) ∧ w'.cell? ⟨w3.heap.size, 7, none⟩ = some (.int .i64 o2.len) ∧ w'.cell? ⟨w5.heap.size, j, none⟩ = some (.string (barN j)) ∧ w'.cell? (ad.add i) = some (.int .u8 z.toNat))
          (first | with_reducible exact sB | with_reducible exact sA | with_reducible exact sD | with_reducible exact sI | fail)
          (first | (go_at_call 8; refine HDo.out.mono ?_; rintro e w8 ⟨er, p', n, o', a', rfl, hF8, hlk8, hle, hor⟩; have sB := keep10f hF8 (HBx.out.2 (w3.heap.size, obC o2) (by simp)).1 (HBx.out.2 (w5.heap.size, lstC) (by simp)).1 HNa.out sA))
        have hbx8 := HB7.out.frm hF8
        clear sI sD sA sB x0 x1 x2 x3 x4 x5 x6 x7 HDo HB7 hcz6 w1 w2 j0 j3 hj hj3
        have HLe := Lib.hid hle
        have HI := Lib.hid (And.intro hi hlt)
        have HF8 := Lib.hid hF8
        clear hle hi hF8 hlt
        by_cases h0 : er = 0
        · rcases hor with ⟨hne, _⟩ | ⟨_, rfl, hh8⟩
          · exact absurd h0 hne
          subst h0
          obtain ⟨B, f, rfl, _, hcl⟩ := Col.SrcO.plain hh8.src (by simp)
          obtain ⟨y0, y1, y2, y3, y4, y5, y6, y7⟩ := ob_cells (i := 0) hcl (x := o') rfl
          rw [Nat.zero_mul, Nat.add_zero] at y0 y1 y2 y3 y4 y5 y6 y7
          have HX8 := Lib.hid hbx8
          have HLk8 := Lib.hid hlk8
          obtain ⟨x0, x1, x2, x3, x4, x5, x6, x7⟩ := cellsOb hbx8.b1
          have xf := blk_free hbx8.b1
          clear hbx8 hlk8 hh8 hcl
          go_wp2_with fail
          have hp := put8 HX8.out.b1 (.int .i64 o'.kind) (.bool o'.exec) (.int .i64 o'.acc) (.int .i64 o'.n) (.string o'.name) (.int .i64 o'.ref) (.int .i64 o'.frm) (.int .i64 o'.len)
          have hBx9 := bx_put HX8.out hp (Nat.le_refl _) (by have := H35.out.size; have := (Array.getElem?_eq_some_iff.1 HO5.out).1; omega)
          have hLk9 := HLk8.out.same (by rw [hp.size]; exact Nat.le_refl _) (fun q _ hO => hp.far q (fun e => (HX8.out.2 (w3.heap.size, obC o2) (by simp)).1 (e ▸ hO)))
          clear hp xf x0 x1 x2 x3 x4 x5 x6 x7 y0 y1 y2 y3 y4 y5 y6 y7 HX8 HLk8
          generalize ((((((((w8.setCell ⟨w3.heap.size, 0, none⟩ (.int .i64 o'.kind)).setCell ⟨w3.heap.size, 1, none⟩ (.bool o'.exec)).setCell ⟨w3.heap.size, 2, none⟩ (.int .i64 o'.acc)).setCell ⟨w3.heap.size, 3, none⟩ (.int .i64 o'.n)).setCell ⟨w3.heap.size, 4, none⟩ (.string o'.name)).setCell ⟨w3.heap.size, 5, none⟩ (.int .i64 o'.ref)).setCell ⟨w3.heap.size, 6, none⟩ (.int .i64 o'.frm)).setCell ⟨w3.heap.size, 7, none⟩ (.int .i64 o'.len)) = W9 at *
          have HAc2 := Lib.hid (accessL_at hLk9)
          have HX9 := Lib.hid hBx9
          have HL9 := Lib.hid hLk9
          unfold Ob.val at HAc2
          clear hBx9 hLk9
          refine HAc2.out.mono ?_; rintro e w10 ⟨rfl, hb10⟩
          have hLk10 := HL9.out.below hb10
          have hBx10 := HX9.out.below hb10
          obtain ⟨x0, x1, x2, x3, x4, x5, x6, x7⟩ := cellsOb hBx10.b1
          have hs11 : SrcO (w10.alloc (obC o')) (some ⟨w10.heap.size, 0, none⟩) [o'] := (hnd_of (l := [o']) (N := 0) (w := w10) (c := _) (t := 27) (Nat.zero_le _) rfl).src
          have HR := Lib.hid (rcheck_do (c := 1) (hLk10.below (below1 w10 (obC o'))) hs11)
          have HX11 := Lib.hid (hBx10.below (below1 w10 (obC o')))
          have HO11 := Lib.hid (hLk10.below (below1 w10 (obC o'))).olt
          unfold s_rcheck obC at HR
          clear hLk10 hBx10 hs11 HAc2 HX9 HL9 hb10
          go_wp2_with fail
          refine HR.out.mono ?_; rintro e w11 ⟨hF11, hLk11, p1, rfl, hh11⟩
          have hBx11 := HX11.out.frm hF11
          clear x0 x1 x2 x3 x4 x5 x6 x7
          obtain ⟨x0, x1, x2, x3, x4, x5, x6, x7⟩ := cellsOb hBx11.b1
          have hs12 : SrcO (w11.alloc (obC o')) (some ⟨w11.heap.size, 0, none⟩) [o'] := (hnd_of (l := [o']) (N := 0) (w := w11) (c := _) (t := 27) (Nat.zero_le _) rfl).src
          have HW := Lib.hid (wcheck_do (c := 1) (hLk11.below (below1 w11 (obC o'))) hs12)
          have HX12 := Lib.hid (hBx11.below (below1 w11 (obC o')))
          have HH12 := Lib.hid (hnd_keep hh11 HO11.out (Frm.of_below (below1 w11 (obC o'))))
          have HA12 := Lib.hid hLk11.1
          unfold s_wcheck obC at HW
          clear hF11 hLk11 hBx11 hs12 hh11 HR HX11
          go_wp2_with fail
          refine HW.out.mono ?_; rintro e w12 ⟨hF12, hLk12, p2, rfl, hh12⟩
          have hBx12 := HX12.out.frm hF12
          have hh11' := hnd_keep HH12.out HO11.out hF12
          clear x0 x1 x2 x3 x4 x5 x6 x7
          obtain ⟨B1, f1, rfl, _, hcl1⟩ := Col.SrcO.plain hh11'.src (by simp)
          obtain ⟨y0, y1, y2, y3, y4, y5, y6, y7⟩ := ob_cells (i := 0) hcl1 rfl
          rw [Nat.zero_mul, Nat.add_zero] at y3
          obtain ⟨B2, f2, rfl, _, hcl2⟩ := Col.SrcO.plain hh12.src (by simp)
          obtain ⟨z0, z1, z2, z3, z4, z5, z6, z7⟩ := ob_cells (i := 0) hcl2 rfl
          rw [Nat.zero_mul, Nat.add_zero] at z3
          clear y0 y1 y2 y4 y5 y6 y7 z0 z1 z2 z4 z5 z6 z7 hcl1 hcl2 hh11' hh12 hF12 HW HX12 HH12
          have hd1 : decide (a' ≤ 1) = (a' == 0 || a' == 1) := by
            have := HA12.out
            rcases (show a' = 0 ∨ a' = 1 ∨ a' = 2 ∨ a' = 3 from by omega) with e | e | e | e <;> rw [e] <;> rfl
          have hle0 : decide (a' < a) = false := decide_eq_false (by have := HLe.out; omega)
          unfold boolC at y3 z3
          have HL12 := Lib.hid hLk12
          have HX12 := Lib.hid hBx12
          clear hLk12 hBx12
          generalize hq1 : (a' == 0 || a' == 1) = d1 at *
          generalize hq2 : (a' == 0) = d2 at *
          clear hq1
          cases d1 <;> cases d2
          all_goals
            have h1 := HI.out.2
            have h2 := H68.out.2.2
            have wi : IntKind.i64.wrap ((i : Int) + 1) = (i : Int) + 1 := by rw [IntKind.wrap_i64]; omega
            simp only [if_true, if_false, Bool.false_eq_true] at y3 z3
            go_wp2_with fail
            go_roundw
            case rel => exact ⟨i + 1, a', o', by (first | rfl | (rw [wi]; rfl) | go_num), by have := HI.out.2; omega, HL12.out, HX12.out⟩
            case measure => simp only [intOf]; (first | omega | (rw [wi]; omega) | (simp; omega))
        · rcases hor with ⟨_, rfl⟩ | ⟨h0', _⟩
          · have g0 : (er == 0) = false := by simp [h0]
            obtain ⟨x0, x1, x2, x3, x4, x5, x6, x7⟩ := cellsOb hbx8.b1
            have hBx9 := hbx8
            have hLk9 := hlk8
            clear hbx8 hlk8
            go_wp2_with fail
            clear x0 x1 x2 x3 x4 x5 x6 x7
            have HAc2 := Lib.hid (accessL_at hLk9)
            have HX9 := Lib.hid hBx9
            have HL9 := Lib.hid hLk9
            unfold Ob.val at HAc2
            clear hBx9 hLk9
            refine HAc2.out.mono ?_; rintro e w10 ⟨rfl, hb10⟩
            have hLk10 := HL9.out.below hb10
            have hBx10 := HX9.out.below hb10
            obtain ⟨x0, x1, x2, x3, x4, x5, x6, x7⟩ := cellsOb hBx10.b1
            have hs11 : SrcO (w10.alloc (obC o')) (some ⟨w10.heap.size, 0, none⟩) [o'] := (hnd_of (l := [o']) (N := 0) (w := w10) (c := _) (t := 27) (Nat.zero_le _) rfl).src
            have HR := Lib.hid (rcheck_do (c := 1) (hLk10.below (below1 w10 (obC o'))) hs11)
            have HX11 := Lib.hid (hBx10.below (below1 w10 (obC o')))
            have HO11 := Lib.hid (hLk10.below (below1 w10 (obC o'))).olt
            unfold s_rcheck obC at HR
            clear hLk10 hBx10 hs11 HAc2 HX9 HL9 hb10
            go_wp2_with fail
            refine HR.out.mono ?_; rintro e w11 ⟨hF11, hLk11, p1, rfl, hh11⟩
            have hBx11 := HX11.out.frm hF11
            clear x0 x1 x2 x3 x4 x5 x6 x7
            obtain ⟨x0, x1, x2, x3, x4, x5, x6, x7⟩ := cellsOb hBx11.b1
            have hs12 : SrcO (w11.alloc (obC o')) (some ⟨w11.heap.size, 0, none⟩) [o'] := (hnd_of (l := [o']) (N := 0) (w := w11) (c := _) (t := 27) (Nat.zero_le _) rfl).src
            have HW := Lib.hid (wcheck_do (c := 1) (hLk11.below (below1 w11 (obC o'))) hs12)
            have HX12 := Lib.hid (hBx11.below (below1 w11 (obC o')))
            have HH12 := Lib.hid (hnd_keep hh11 HO11.out (Frm.of_below (below1 w11 (obC o'))))
            have HA12 := Lib.hid hLk11.1
            unfold s_wcheck obC at HW
            clear hF11 hLk11 hBx11 hs12 hh11 HR HX11
            go_wp2_with fail
            refine HW.out.mono ?_; rintro e w12 ⟨hF12, hLk12, p2, rfl, hh12⟩
            have hBx12 := HX12.out.frm hF12
            have hh11' := hnd_keep HH12.out HO11.out hF12
            clear x0 x1 x2 x3 x4 x5 x6 x7
            obtain ⟨B1, f1, rfl, _, hcl1⟩ := Col.SrcO.plain hh11'.src (by simp)
            obtain ⟨y0, y1, y2, y3, y4, y5, y6, y7⟩ := ob_cells (i := 0) hcl1 rfl
            rw [Nat.zero_mul, Nat.add_zero] at y3
            obtain ⟨B2, f2, rfl, _, hcl2⟩ := Col.SrcO.plain hh12.src (by simp)
            obtain ⟨z0, z1, z2, z3, z4, z5, z6, z7⟩ := ob_cells (i := 0) hcl2 rfl
            rw [Nat.zero_mul, Nat.add_zero] at z3
            clear y0 y1 y2 y4 y5 y6 y7 z0 z1 z2 z4 z5 z6 z7 hcl1 hcl2 hh11' hh12 hF12 HW HX12 HH12
            have hd1 : decide (a' ≤ 1) = (a' == 0 || a' == 1) := by
              have := HA12.out
              rcases (show a' = 0 ∨ a' = 1 ∨ a' = 2 ∨ a' = 3 from by omega) with e | e | e | e <;> rw [e] <;> rfl
            have hle0 : decide (a' < a) = false := decide_eq_false (by have := HLe.out; omega)
            unfold boolC at y3 z3
            have HL12 := Lib.hid hLk12
            have HX12 := Lib.hid hBx12
            clear hLk12 hBx12
            generalize hq1 : (a' == 0 || a' == 1) = d1 at *
            generalize hq2 : (a' == 0) = d2 at *
            clear hq1
            cases d1 <;> cases d2
            all_goals
              have h1 := HI.out.2
              have h2 := H68.out.2.2
              have wi : IntKind.i64.wrap ((i : Int) + 1) = (i : Int) + 1 := by rw [IntKind.wrap_i64]; omega
              simp only [if_true, if_false, Bool.false_eq_true] at y3 z3
              go_wp2_with fail
              go_roundw
              case rel => exact ⟨i + 1, a', o', by (first | rfl | (rw [wi]; rfl) | go_num), by have := HI.out.2; omega, HL12.out, HX12.out⟩
              case measure => simp only [intOf]; (first | omega | (rw [wi]; omega) | (simp; omega))
          · exact absurd h0' h0
      · have hil : i = l.length := by omega
        subst hil
        have HFin := Lib.hid (HB3'.out wr hbx.1)
        clear hlk hbx
        go_wp2_with fail
        go_ret
        exact ⟨rfl, HFin.out⟩
  · have hcase : ok = false ∨ (ok = true ∧ decide (t.kind < 6) = true) ∨ (ok = true ∧ decide (t.kind < 6) = false ∧ decide (8 < t.kind) = true) ∨ (ok = true ∧ decide (t.kind < 6) = false ∧ decide (8 < t.kind) = false ∧ decide ((20 : Int) < (l.length : Int)) = true) := by
      cases ok with
      | false => exact .inl rfl
      | true =>
        by_cases h6 : t.kind < 6
        · exact .inr (.inl ⟨rfl, decide_eq_true h6⟩)
        by_cases h8 : 8 < t.kind
        · exact .inr (.inr (.inl ⟨rfl, decide_eq_false h6, decide_eq_true h8⟩))
        · exact .inr (.inr (.inr ⟨rfl, decide_eq_false h6, decide_eq_false h8, decide_eq_true (by
            have : ¬ l.length ≤ 20 := fun h => hq ⟨rfl, by omega, by omega, h⟩
            omega)⟩))
    clear hq HOk
    rcases hcase with rfl | ⟨rfl, g1⟩ | ⟨rfl, g1, g2⟩ | ⟨rfl, g1, g2, g3⟩
    all_goals
      as_aux_lemma =>
        go_wp2_with fail
        refine (HA.out _ HB5.out).mono ?_; rintro e w6 ⟨rfl, hb6⟩
        have HB6 := Lib.hid (bthen HB5.out hb6)
        clear hb6
        go_wp2_with fail
        go_ret
        exact ⟨rfl, HB6.out⟩
end Cv
end Go.Proofs.YtfilbfenpdaahaaGreatDoor
