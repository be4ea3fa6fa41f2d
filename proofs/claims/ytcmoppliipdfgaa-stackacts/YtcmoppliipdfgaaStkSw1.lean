/-
  The switch of the law StackActs, case by case: none of them; Top.
-/
import Derived.Test.YtcmoppliipdfgaaStkActC
import Derived.Deep.DeepCutAuto
import Derived.Deep.CutBlock
namespace Go.Proofs.Ytcmoppliipdfgaa
open Go.RowKit
open St Stk
namespace Stk
theorem rw_nil (w : World) : Rw w (.slice none 0 0) [] := ⟨none, 0, rfl, .inl rfl⟩
theorem rw_one (w : World) (o : Ob) : Rw (w.alloc (obC o)) (.slice (some ⟨w.heap.size, 0, none⟩) 1 1) [o] := ⟨_, 1, rfl, src_one w o⟩
/-- a call of the stack beside a box that the law keeps -/
theorem Kp.box {w W W1 w5 w9 : World} {s B : Nat} {M : Int} {O : Nat → Prop} {v : Value} {l l' t : List Ob} (h : Kp w s M O W v l t) (hb : Below W.heap.size W W1) (hp : SkP O W1 s M 12 13 l' w5) (hB : W.heap.size ≤ B) (hB1 : B < W1.heap.size) (h8 : ∀ k, k ≠ B → w9.heap[k]? = w5.heap[k]?) (hz : w9.heap.size = w5.heap.size) (e1 : w9.os = w5.os) (e2 : w9.tape = w5.tape) (e3 : w9.output = w5.output) : ∃ O', Kp w s M O' w9 v l' t := by
  obtain ⟨O', h1, hF, h3⟩ := hp
  have hsz := hb.size
  have hfz := hF.size
  have hwz := h.bel.size
  obtain ⟨a, c, e, hs, g1, g2⟩ := h.row
  have hO : ∀ k, O' k → k ≠ B := fun k hk e => by
    rcases h3 k hk with e2 | e2
    · have := h.sk.olt k e2; omega
    · omega
  have hFW : Frm O W w9 := ⟨e1.trans (hF.os.trans hb.os), e2.trans (hF.tape.trans hb.tape), e3.trans (hF.output.trans hb.output), by omega, fun k hk hn => by rw [h8 k (by omega), hF.block k (by omega) hn]; exact hb.block k hk⟩
  refine ⟨O', h1.same (by omega) (fun k _ hk => h8 k (hO k hk)), fun k hk => ?_, ⟨hFW.os.trans h.bel.os, hFW.tape.trans h.bel.tape, hFW.output.trans h.bel.output, by omega, fun k hk => (hFW.block k (by omega) (fun e => by have := h.lo k e; omega)).trans (h.bel.block k hk)⟩, a, c, e, hs.turn hFW (fun k hk => ?_), g1, g2⟩
  · rcases h3 k hk with e2 | e2
    · exact h.lo k e2
    · omega
  · rcases h3 k hk with e2 | e2
    · exact .inl e2
    · right; omega
theorem box_turn {O : Nat → Prop} {w w' : World} {s B : Nat} {most ov un : Int} {l : List Ob} {c : Obj} (hO : ∀ k, O k → k < B) (hp : SkP O w s most ov un l w') (hc : w.heap[B]? = some c) : w'.heap[B]? = some c := by
  obtain ⟨O', h1, hF, h3⟩ := hp
  exact (hF.block B (Array.getElem?_eq_some_iff.1 hc).1 (fun e => by have := hO B e; omega)).trans hc
theorem srcN_take {O : Nat → Prop} {w : World} {a : Option Addr} {t : List Ob} (h : SrcN O w a t) (m : Nat) : SrcN O w a (t.take m) := by
  rcases h with h | ⟨ad, e, hx, hn⟩
  · exact .inl (by rw [h]; simp)
  · refine .inr ⟨ad, e, fun j z hz => hx j z ?_, hn⟩
    have e3 : t.flatMap Ob.cells = (t.take m).flatMap Ob.cells ++ (t.drop m).flatMap Ob.cells := by rw [← List.flatMap_append, List.take_append_drop]
    have hj := (List.getElem?_eq_some_iff.1 hz).1
    rw [e3, List.getElem?_append_left hj]; exact hz
theorem Kp.cut {w wr : World} {s m c : Nat} {M : Int} {O : Nat → Prop} {a : Option Addr} {l t : List Ob} (h : Kp w s M O wr (.slice a t.length c) l t) (hm : m ≤ t.length) : Kp w s M O wr (.slice a m c) l (t.take m) := by
  obtain ⟨a2, c2, e, hs, h1, h2⟩ := h.row
  cases e
  have hl : (t.take m).length = m := by rw [List.length_take]; omega
  exact ⟨h.sk, h.lo, h.bel, a, c, by rw [hl], srcN_take hs m, h1, by omega⟩
theorem src_dropA {w : World} {ad : Addr} {t : List Ob} (h : SrcO w (some ad) t) (d : Nat) : SrcO w (some (ad.add (d * 8))) (t.drop d) := by
  by_cases hd : t.length ≤ d
  · exact .inl (List.drop_eq_nil_of_le hd)
  refine .inr ⟨_, rfl, fun j z hz => ?_⟩
  have e1 : (ad.add (d * 8)).add j = ad.add (d * 8 + j) := by
    unfold Addr.add
    by_cases h1 : d * 8 = 0 <;> by_cases h2 : j = 0 <;> simp_all <;> omega
  rw [e1]
  have e2 : t.flatMap Ob.cells = (t.take d).flatMap Ob.cells ++ (t.drop d).flatMap Ob.cells := by rw [← List.flatMap_append, List.take_append_drop]
  have e3 : ((t.take d).flatMap Ob.cells).length = d * 8 := by rw [obs_len, List.length_take]; congr 1; omega
  exact h.some (d * 8 + j) z (by rw [e2, List.getElem?_append_right (by omega), e3, ← hz]; congr 1; omega)
theorem srcN_of {O : Nat → Prop} {w W : World} {a : Option Addr} {l : List Ob} (h : SrcO w a l) (hb : Below w.heap.size w W) (lo : ∀ k, O k → w.heap.size ≤ k) : SrcN O W a l := by
  rcases h.below hb with e | ⟨ad, e, hx⟩
  · exact .inl e
  · by_cases hl : l = []
    · exact .inl hl
    · have h0 : 0 < (l.flatMap Ob.cells).length := by rw [obs_len]; have := List.length_pos_iff.2 hl; omega
      rcases h with e2 | ⟨ad2, e2, hx2⟩
      · exact .inl e2
      · rw [e] at e2
        cases e2
        have hlt := World.block_lt_of_cell? w _ (hx2 0 _ (List.getElem?_eq_getElem h0))
        rw [add_block] at hlt
        exact .inr ⟨ad, e, hx, fun e3 => by have := lo _ e3; omega⟩
theorem box_keep {O : Nat → Prop} {W W1 w' : World} {s b : Nat} {most ov un : Int} {l : List Ob} {c : Obj} (hb : Below W.heap.size W W1) (hno : ¬ O b) (hp : SkP O W1 s most ov un l w') (hc : W.heap[b]? = some c) : w'.heap[b]? = some c := by
  have hlt := (Array.getElem?_eq_some_iff.1 hc).1
  obtain ⟨O', h1, hF, h3⟩ := hp
  rw [hF.block b (Nat.lt_of_lt_of_le hlt hb.size) hno]
  exact (hb.block b hlt).trans hc
theorem boxCells {W : World} {b : Nat} {x : Kc} (h : W.heap[b]? = some (kcC x)) : W.cell? ⟨b, 0, none⟩ = some (.int .i64 x.d) ∧ W.cell? ⟨b, 1, none⟩ = some (.int .i64 x.n) ∧ W.cell? ⟨b, 2, none⟩ = some (.int .i64 x.j) ∧ W.cell? ⟨b, 3, none⟩ = some (.slice x.la x.l.length x.lc) ∧ W.cell? ⟨b, 4, none⟩ = some (.slice x.ka x.ks.length x.kc) := ⟨blk_cell h 0, blk_cell h 1, blk_cell h 2, blk_cell h 3, blk_cell h 4⟩
end Stk
section
variable {w W : World} {M : Int} {va ma : Option Addr} {vc n0 i b mc : Nat} {l : List Ob} {x : Kc} {O : Nat → Prop} {a : Act}
set_option maxRecDepth 100000
set_option maxHeartbeats 2000000
theorem sw_none (h : InS w M va ma vc n0 i b mc l x O a W) (h1 : x.d ≠ 1) (h2 : x.d ≠ 2) (h3 : x.d ≠ 3) (h4 : x.d ≠ 4) (h5 : x.d ≠ 5) (h6 : x.d ≠ 6) (h7 : x.d ≠ 7) (h8 : x.d ≠ 8) (h9 : x.d ≠ 9) : SwOk w M va vc n0 i a W := by
  intro J K' Q' hJ hK hQ
  obtain ⟨u, rfl⟩ := h.fr.out
  have HI := Lib.hid h
  have n1 : (x.d == 1) = false := by simp [h1]
  have n2 : (x.d == 2) = false := by simp [h2]
  have n3 : (x.d == 3) = false := by simp [h3]
  have n4 : (x.d == 4) = false := by simp [h4]
  have n5 : (x.d == 5) = false := by simp [h5]
  have n6 : (x.d == 6) = false := by simp [h6]
  have n7 : (x.d == 7) = false := by simp [h7]
  have n8 : (x.d == 8) = false := by simp [h8]
  have n9 : (x.d == 9) = false := by simp [h9]
  clear h h1 h2 h3 h4 h5 h6 h7 h8 h9
  conv => arg 2; whnf
  go_wp2_with fail
  refine Met.intro (hJ _ _ ⟨rfl, by kernel_rfl, by kernel_rfl, by kernel_rfl, by kernel_rfl, by kernel_rfl, by kernel_rfl, by kernel_rfl, ?_⟩)
  exact ⟨O, l, [], 0, HI.out.kp, by have := HI.out.ll; omega, by kernel_rfl, by kernel_rfl, rw_nil _, rw_nil _, by simp⟩
end
end Go.Proofs.Ytcmoppliipdfgaa
