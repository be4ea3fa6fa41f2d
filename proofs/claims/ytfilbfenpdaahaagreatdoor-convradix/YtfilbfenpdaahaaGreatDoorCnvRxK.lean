/-
  Do of cvs, cvi and cvr, of a number and a string of 60 bytes.
Do of cvrs of a number, a base and a string of 60 bytes; of cvi of a text made behind it.
The worlds of ConvRadix' drawn statement: the bytes that were read, a box that may be made at any time, the text that is made.
-/
import Derived.Test.YtfilbfenpdaahaaGreatDoorCnvBkM
import Derived.Test.YtfilbfenpdaahaaGreatDoorCnvDoR
namespace Go.Proofs.YtfilbfenpdaahaaGreatDoor
open Go.RowKit
open St
open Stk
open Col
open Fx Dc
namespace Cv
theorem string60 {O : Nat → Prop} {w : World} {s : Nat} (h : Rep O w s 500 []) :
    Calls Tryz.prog 7 #[.pointer (some ⟨s, 0, none⟩), .int .i64 60] w fun e w' => e = .returned (.tuple #[(rmO 60).val, .int .i64 0]) ∧ ∃ l fr, Rep (Up O w w') w' s fr (gB z60 l) ∧ Frm O w w' := by
  refine (string_at h 60).mono ?_
  rintro e w' (⟨hne, _⟩ | ⟨_, rfl, l, hR, hF⟩)
  · exact absurd (by decide) hne
  · exact ⟨rfl, l, _, hR, hF⟩
/-- what a Do leaves that hands over just this -/
def OneP (O : Nat → Prop) (w : World) (ob : Ob) (R : World → Prop) (e : Ending) (w' : World) : Prop :=
  Frm O w w' ∧ R w' ∧ ∃ p', e = .returned (.tuple #[.slice p' 1 1, .int .i64 0]) ∧ Hnd w.heap.size p' [ob] w'
theorem one_of {O : Nat → Prop} {w : World} {ob : Ob} {R : World → Prop} {e : Ending} {w' : World} (h : DoP O (fun o er w2 => er = 0 ∧ o = ob ∧ R w2) w e w') : OneP O w ob R e w' := by
  obtain ⟨hF, o, er, ⟨rfl, rfl, hr⟩, ⟨hne, _⟩ | ⟨_, p', he, hh⟩⟩ := h
  · exact absurd rfl hne
  · exact ⟨hF, hr, p', he, hh⟩
theorem back_cvs {O : Nat → Prop} {w : World} {s c : Nat} {fr k n : Int} {l : Lay} {p : Option Addr} (h : Rep O w s fr (gB z60 l)) (hNp : ∀ ad, p = some ad → ¬ O ad.block) (hl : SrcO w p [numO k n, rmO 60]) (hk : k = 1 ∨ k = 2) (hn : -2147483648 ≤ n ∧ n ≤ 2147483647) (ht : Tab w) :
    Calls Tryz.prog 8 #[.pointer (some ⟨s, 0, none⟩), .string s_cvs, .slice p 2 c] w (OneP O w (rmO (txtN k n).length) fun w2 => Rep O w2 s fr (gL (txtN k n) l)) := by
  have h60 := txtN_len (k := k) hn
  have hz : z60.length = 60 := by decide
  have ht6 : Cn.txtL (gB z60 l) (numO k n) = txtN k n := txt_num _ hk
  refine (do_at (l := [numO k n, rmO 60]) h hl (by simp) (by simp) (fun o ho => ?_) known_cvs (fun o er w2 => er = 0 ∧ o = rmO (txtN k n).length ∧ Rep O w2 s fr (gL (txtN k n) l)) (fun w2 hb => ?_) (fun o er w1 w2 hq hb => ⟨hq.1, hq.2.1, hq.2.2.below hb⟩)).mono (fun e w' hd => one_of hd)
  · simp only [List.mem_cons, List.mem_nil_iff, or_false] at ho
    rcases ho with rfl | rfl
    · exact valid_num _ hk
    · exact valid_gB hz (by decide) (by decide)
  · refine (do_cvs (G' := gL (txtN k n) l) (q := rmO (txtN k n).length) (h.below hb) hNp (hl.below hb) (fun w3 hb3 => ?_)).mono (fun e w' hd => ⟨_, _, hd.1, hd.2.1, rfl, rfl, hd.2.2⟩)
    refine asText_at ((h.below hb).below hb3) rfl (acs_rm _ _) (Tab.below (Tab.below ht hb) hb3) ⟨by show _ ≤ n; omega, by show n ≤ _; omega⟩ ?_ ?_ ?_
    · rw [ht6]; exact part_gB hz h60
    · rw [ht6]; exact writeE_gB hz h60
    · rw [ht6]; exact writeR_gB hz h60
theorem num_str {O : Nat → Prop} {w : World} {s : Nat} {fr k n : Int} {l : Lay} {L : List UInt8} (h : Rep O w s fr (gL L l)) (h60 : L.length ≤ 60) (hk : k = 1 ∨ k = 2) (hT : tokR L = (k, n, true, 0)) (hm : Mx w) :
    Calls Tryz.prog 52 #[cw s, (rmO L.length).val] w (NumP (numO k n) w) := by
  have hb : bytesR (gL L l) (rmO L.length) = L := bytes_gB (gL_len h60)
  refine number_str h rfl (acs_rm _ _) ?_ hm ?_ hk ?_
  · unfold gL; rw [tld_gB (gL_len h60) (by omega) (by omega)]; simp
  · rw [hb]; omega
  · rw [hb]; exact hT
theorem back_cvi {O : Nat → Prop} {w : World} {s c : Nat} {fr n : Int} {l : Lay} {L : List UInt8} {p : Option Addr} (h : Rep O w s fr (gL L l)) (hl : SrcO w p [rmO L.length]) (h60 : L.length ≤ 60) (hT : tokR L = (1, n, true, 0)) (hm : Mx w) :
    Calls Tryz.prog 8 #[.pointer (some ⟨s, 0, none⟩), .string s_cvi, .slice p 1 c] w (OneP O w (numO 1 n) fun _ => True) := by
  refine (do_at (l := [rmO L.length]) h hl (by simp) (by simp) (fun o ho => ?_) known_cvi (fun o er w2 => er = 0 ∧ o = numO 1 n ∧ True) (fun w2 hb => ?_) (fun o er w1 w2 hq hb => hq)).mono (fun e w' hd => one_of hd)
  · simp only [List.mem_cons, List.mem_nil_iff, or_false] at ho
    rw [ho]; exact valid_gB (gL_len h60) (by omega) (by omega)
  · exact (do_cvi (hl.below hb) (fun w3 hb3 => asInt_of (fun w4 hb4 => num_str (((h.below hb).below hb3).below hb4) h60 (.inl rfl) hT (Mx.below (Mx.below (Mx.below hm hb) hb3) hb4)))).mono (fun e w' hd => ⟨_, _, hd.1, Frm.of_below hd.2, rfl, rfl, trivial⟩)
theorem back_cvr {O : Nat → Prop} {w : World} {s c : Nat} {fr n : Int} {l : Lay} {L : List UInt8} {p : Option Addr} (h : Rep O w s fr (gL L l)) (hl : SrcO w p [rmO L.length]) (h60 : L.length ≤ 60) (hT : tokR L = (2, n, true, 0)) (hm : Mx w) :
    Calls Tryz.prog 8 #[.pointer (some ⟨s, 0, none⟩), .string s_cvr, .slice p 1 c] w (OneP O w (numO 2 n) fun _ => True) := by
  refine (do_at (l := [rmO L.length]) h hl (by simp) (by simp) (fun o ho => ?_) known_cvr (fun o er w2 => er = 0 ∧ o = numO 2 n ∧ True) (fun w2 hb => ?_) (fun o er w1 w2 hq hb => hq)).mono (fun e w' hd => one_of hd)
  · simp only [List.mem_cons, List.mem_nil_iff, or_false] at ho
    rw [ho]; exact valid_gB (gL_len h60) (by omega) (by omega)
  · exact (do_cvr (hl.below hb) (fun w3 hb3 => asReal_of (fun w4 hb4 => num_str (((h.below hb).below hb3).below hb4) h60 (.inr rfl) hT (Mx.below (Mx.below (Mx.below hm hb) hb3) hb4)))).mono (fun e w' hd => ⟨_, _, hd.1, Frm.of_below hd.2, rfl, rfl, trivial⟩)
end Cv
end Go.Proofs.YtfilbfenpdaahaaGreatDoor
namespace Go.Proofs.YtfilbfenpdaahaaGreatDoor
open Go.RowKit
open St
open Stk
open Col
open Fx Dc
namespace Cv
theorem string60f {O : Nat → Prop} {w : World} {s : Nat} (h : Rep O w s 500 []) :
    Calls Tryz.prog 7 #[.pointer (some ⟨s, 0, none⟩), .int .i64 60] w fun e w' => e = .returned (.tuple #[(rmO 60).val, .int .i64 0]) ∧ ∃ l, Rep (Up O w w') w' s 491 (gB z60 l) ∧ Frm O w w' := by
  refine (string_at h 60).mono ?_
  rintro e w' (⟨hne, _⟩ | ⟨_, rfl, l, hR, hF⟩)
  · exact absurd (by decide) hne
  · exact ⟨rfl, l, hR, hF⟩
def rxL (b : Nat) (n : Int) : List UInt8 := if b = 10 then Lib.itoa n else digB false b 33 (u32N n)
theorem rxL_len (b : Nat) {n : Int} (hn : -2147483648 ≤ n ∧ n ≤ 2147483647) : (rxL b n).length ≤ 60 := by
  unfold rxL
  split
  · exact itoa_len n hn
  · have := digB_len false b 33 (u32N n); omega
theorem do_rx {O : Nat → Prop} {w : World} {s c b : Nat} {fr n : Int} {l : Lay} {p : Option Addr} (h : Rep O w s fr (gB z60 l)) (hNp : ∀ ad, p = some ad → ¬ O ad.block) (hl : SrcO w p [numO 1 n, numO 1 b, rmO 60]) (hb0 : 2 ≤ b) (hb1 : b ≤ 36) (hn : -2147483648 ≤ n ∧ n ≤ 2147483647) (ht : Tab w) (htz : TzT w) :
    Calls Tryz.prog 8 #[.pointer (some ⟨s, 0, none⟩), .string s_cvrs, .slice p 3 c] w (OneP O w (rmO (rxL b n).length) fun w2 => Rep O w2 s fr (gL (rxL b n) l)) := by
  have h60 := rxL_len b hn
  have hz : z60.length = 60 := by decide
  refine (do_at (l := [numO 1 n, numO 1 b, rmO 60]) h hl (by simp) (by simp) (fun o ho => ?_) known_cvrs (fun o er w2 => er = 0 ∧ o = rmO (rxL b n).length ∧ Rep O w2 s fr (gL (rxL b n) l)) (fun w2 hb => ?_) (fun o er w1 w2 hq hb => ⟨hq.1, hq.2.1, hq.2.2.below hb⟩)).mono (fun e w' hd => one_of hd)
  · simp only [List.mem_cons, List.mem_nil_iff, or_false] at ho
    rcases ho with rfl | rfl | rfl
    · exact valid_num _ (.inl rfl)
    · exact valid_num _ (.inl rfl)
    · exact valid_gB hz (by decide) (by decide)
  · refine (do_cvrs (G' := gL (rxL b n) l) (q := rmO (rxL b n).length) (h.below hb) hNp (hl.below hb) (fun w3 hb3 => ?_)).mono (fun e w' hd => ⟨_, _, hd.1, hd.2.1, rfl, rfl, hd.2.2⟩)
    by_cases h10 : b = 10
    · subst h10
      have ht6 : Cn.txtL (gB z60 l) (numO 1 n) = rxL 10 n := by
        rw [txt_num _ (.inl rfl)]; rfl
      refine asDig10_at ((h.below hb).below hb3) rfl (acs_rm _ _) (Tab.below (Tab.below ht hb) hb3) hn ?_ ?_ ?_
      · rw [ht6]; exact part_gB hz h60
      · rw [ht6]; exact writeE_gB hz h60
      · rw [ht6]; exact writeR_gB hz h60
    · have e : digB false b 33 (u32N n) = rxL b n := by unfold rxL; rw [if_neg h10]
      refine asDig_at ((h.below hb).below hb3) rfl (acs_rm _ _) ((htz.below hb).below hb3) hn hb0 hb1 h10 ?_ ?_ ?_
      · rw [e]; exact part_gB hz h60
      · rw [e]; exact writeE_gB hz h60
      · rw [e]; exact writeR_gB hz h60
theorem text_rx {O : Nat → Prop} {w : World} {s c : Nat} {l : Lay} {L T : List UInt8} {a : Option Addr} (h : Rep O w s 491 (gL L l)) (hS : Src w a T) (hT : T.length ≤ 60) :
    Calls Tryz.prog 12 #[.pointer (some ⟨s, 0, none⟩), .slice a T.length c] w fun e w' => e = .returned (.tuple #[(txO T).val, .int .i64 0]) ∧ ∃ l2 fr, Rep (Up O w w') w' s fr (gT L T l l2) ∧ Frm O w w' := by
  refine (text_at h hS).mono ?_
  have hc : clm 6 T.length 491 = 0 := by
    unfold clm mostI cellsI
    rw [if_neg (by omega), if_neg (by simp; omega), if_neg (by simp; omega)]
  rintro e w' (⟨hne, _⟩ | ⟨_, rfl, l2, hR, hF⟩)
  · exact absurd hc hne
  · exact ⟨rfl, l2, _, hR, hF⟩
theorem do_back {O : Nat → Prop} {w : World} {s c : Nat} {fr n : Int} {l l2 : Lay} {L T : List UInt8} {p : Option Addr} (h : Rep O w s fr (gT L T l l2)) (hl : SrcO w p [txO T]) (h60 : T.length ≤ 60) (hT : tokR T = (1, n, true, 0)) (hm : Mx w) :
    Calls Tryz.prog 8 #[.pointer (some ⟨s, 0, none⟩), .string s_cvi, .slice p 1 c] w (OneP O w (numO 1 n) fun _ => True) := by
  refine (do_at (l := [txO T]) h hl (by simp) (by simp) (fun o ho => ?_) known_cvi (fun o er _ => er = 0 ∧ o = numO 1 n ∧ True) (fun w2 hb => ?_) (fun o er w1 w2 hq hb => hq)).mono (fun e w' hd => one_of hd)
  · simp only [List.mem_cons, List.mem_nil_iff, or_false] at ho
    rw [ho]; exact valid_gT
  · refine (do_cvi (hl.below hb) (fun w3 hb3 => asInt_of (fun w4 hb4 => ?_))).mono (fun e w' hd => ⟨_, _, hd.1, Frm.of_below hd.2, rfl, rfl, trivial⟩)
    have hb' : bytesR (gT L T l l2) (txO T) = T := bytes_gT
    refine number_str (((h.below hb).below hb3).below hb4) rfl rfl ?_ (Mx.below (Mx.below (Mx.below hm hb) hb3) hb4) ?_ (.inl rfl) ?_
    · rw [tld_gT]; simp
    · rw [hb']; omega
    · rw [hb']; exact hT
end Cv
end Go.Proofs.YtfilbfenpdaahaaGreatDoor
namespace Go.Proofs.YtfilbfenpdaahaaGreatDoor
open Go.RowKit
open St
open Stk
open Col
open Fx Dc
namespace Cv
def rowX (L : List UInt8) : Obj := .cells (L.map bv).toArray 5 (0, 0)
/-- ahead of the text -/
structure RxK (O : Nat → Prop) (w : World) (s : Nat) (l : Lay) (L : List UInt8) (B : Nat) (W : World) : Prop where
  bel : Below w.heap.size w W
  rep : Rep O W s 491 (gL L l)
  own : ∀ q, O q → w.heap.size ≤ q
  row : W.heap[B]? = some (rowX L)
  out : ¬ O B
/-- the same, and the box is there -/
structure RxB (O : Nat → Prop) (w : World) (s : Nat) (l : Lay) (L : List UInt8) (B P : Nat) (W : World) : Prop where
  k : RxK O w s l L B W
  box : W.heap[P]? = some (obC nul)
  bout : ¬ O P
  ne : P ≠ B
  ge : w.heap.size ≤ P
/-- behind the text -/
structure RxM (O : Nat → Prop) (w : World) (s : Nat) (l : Lay) (L T : List UInt8) (B : Nat) (W : World) : Prop where
  bel : Below w.heap.size w W
  rep : ∃ l2 fr, Rep O W s fr (gT L T l l2)
  own : ∀ q, O q → w.heap.size ≤ q
  row : W.heap[B]? = some (rowX L)
  out : ¬ O B
structure RxN (O : Nat → Prop) (w : World) (s : Nat) (l : Lay) (L T : List UInt8) (B P : Nat) (o : Ob) (W : World) : Prop where
  m : RxM O w s l L T B W
  box : W.heap[P]? = some (obC o)
  bout : ¬ O P
  ne : P ≠ B
  ge : w.heap.size ≤ P
section
variable {O : Nat → Prop} {w W W' : World} {s : Nat} {l : Lay} {L T : List UInt8} {B P : Nat}
theorem RxK.below (h : RxK O w s l L B W) (hb : Below W.heap.size W W') : RxK O w s l L B W' :=
  ⟨bthen h.bel hb, h.rep.below hb, h.own, (hb.block _ (Array.getElem?_eq_some_iff.1 h.row).1).trans h.row, h.out⟩
theorem RxB.below (h : RxB O w s l L B P W) (hb : Below W.heap.size W W') : RxB O w s l L B P W' :=
  ⟨h.k.below hb, (hb.block _ (Array.getElem?_eq_some_iff.1 h.box).1).trans h.box, h.bout, h.ne, h.ge⟩
theorem RxK.alloc (h : RxK O w s l L B W) : RxB O w s l L B W.heap.size (W.alloc (obC nul)) :=
  ⟨h.below (below1 _ _), heap_alloc_new _ _, fun e => Nat.lt_irrefl _ (h.rep.olt _ e), fun e => Nat.lt_irrefl _ (e ▸ (Array.getElem?_eq_some_iff.1 h.row).1), h.bel.size⟩
theorem below_d (W : World) : Below W.heap.size W W.drew := ⟨rfl, rfl, rfl, Nat.le_refl _, fun _ _ => rfl⟩
theorem row_cvt (h : W.heap[B]? = some (rowX L)) : (convert 35 9 (.slice (some ⟨B, 0, none⟩) L.length L.length)).run Tryz.prog W = .ok (.string ⟨L.toArray⟩) W := cvt_all h _
theorem RxK.cvt (h : RxK O w s l L B W) : (convert 35 9 (.slice (some ⟨B, 0, none⟩) L.length L.length)).run Tryz.prog W = .ok (.string ⟨L.toArray⟩) W := row_cvt h.row
theorem RxB.cvt (h : RxB O w s l L B P W) : (convert 35 9 (.slice (some ⟨B, 0, none⟩) L.length L.length)).run Tryz.prog W = .ok (.string ⟨L.toArray⟩) W := row_cvt h.k.row
theorem RxM.cvt (h : RxM O w s l L T B W) : (convert 35 9 (.slice (some ⟨B, 0, none⟩) L.length L.length)).run Tryz.prog W = .ok (.string ⟨L.toArray⟩) W := row_cvt h.row
theorem RxM.cvtA (h : RxM O w s l L T B W) (o : Obj) : (convert 35 9 (.slice (some ⟨B, 0, none⟩) L.length L.length)).run Tryz.prog (W.alloc o) = .ok (.string ⟨L.toArray⟩) (W.alloc o) :=
  row_cvt (((below1 W o).block _ (Array.getElem?_eq_some_iff.1 h.row).1).trans h.row)
theorem RxK.cvtA (h : RxK O w s l L B W) (o : Obj) : (convert 35 9 (.slice (some ⟨B, 0, none⟩) L.length L.length)).run Tryz.prog (W.alloc o) = .ok (.string ⟨L.toArray⟩) (W.alloc o) :=
  row_cvt (((below1 W o).block _ (Array.getElem?_eq_some_iff.1 h.row).1).trans h.row)
theorem RxK.text (h : RxK O w s l L B W) (hR : ∃ l2 fr, Rep (Up O W W') W' s fr (gT L T l l2) ∧ Frm O W W') : RxM (Up O W W') w s l L T B W' := by
  obtain ⟨l2, fr, hr, hF⟩ := hR
  have hlt := (Array.getElem?_eq_some_iff.1 h.row).1
  refine ⟨h.bel.trans (hF.below h.bel.size (fun q hq e => by have := h.own q e; omega)), ⟨l2, fr, hr⟩, fun q hq => ?_, (hF.block _ hlt h.out).trans h.row, fun hq => ?_⟩
  · rcases hq with hq | ⟨hq, _⟩
    · exact h.own q hq
    · exact Nat.le_trans h.bel.size hq
  · rcases hq with hq | ⟨hq, _⟩
    · exact h.out hq
    · omega
theorem RxB.text (h : RxB O w s l L B P W) (hR : ∃ l2 fr, Rep (Up O W W') W' s fr (gT L T l l2) ∧ Frm O W W') : RxN (Up O W W') w s l L T B P nul W' := by
  have hm := h.k.text hR
  obtain ⟨l2, fr, hr, hF⟩ := hR
  have hlt := (Array.getElem?_eq_some_iff.1 h.box).1
  refine ⟨hm, (hF.block _ hlt h.bout).trans h.box, fun hq => ?_, h.ne, h.ge⟩
  rcases hq with hq | ⟨hq, _⟩
  · exact h.bout hq
  · omega
theorem RxM.below (h : RxM O w s l L T B W) (hb : Below W.heap.size W W') : RxM O w s l L T B W' := by
  obtain ⟨l2, fr, hr⟩ := h.rep
  exact ⟨bthen h.bel hb, ⟨l2, fr, hr.below hb⟩, h.own, (hb.block _ (Array.getElem?_eq_some_iff.1 h.row).1).trans h.row, h.out⟩
theorem RxM.alloc (h : RxM O w s l L T B W) (o : Ob) : RxN O w s l L T B W.heap.size o (W.alloc (obC o)) := by
  obtain ⟨l2, fr, hr⟩ := h.rep
  exact ⟨h.below (below1 _ _), heap_alloc_new _ _, fun e => Nat.lt_irrefl _ (hr.olt _ e), fun e => Nat.lt_irrefl _ (e ▸ (Array.getElem?_eq_some_iff.1 h.row).1), h.bel.size⟩
theorem RxN.put {o q : Ob} (h : RxN O w s l L T B P o W) (hp : Put8 W P 27 (.int .i64 q.kind) (.bool q.exec) (.int .i64 q.acc) (.int .i64 q.n) (.string q.name) (.int .i64 q.ref) (.int .i64 q.frm) (.int .i64 q.len) W') : RxN O w s l L T B P q W' := by
  obtain ⟨l2, fr, hr⟩ := h.m.rep
  refine ⟨⟨below_put8 h.m.bel h.ge hp, ⟨l2, fr, hr.same (by rw [hp.size]; exact Nat.le_refl _) (fun k _ hk => hp.far k (fun e => h.bout (e ▸ hk)))⟩, h.m.own, (hp.far B (fun e => h.ne e.symm)).trans h.m.row, h.m.out⟩, hp.blk, h.bout, h.ne, h.ge⟩
theorem RxN.cvt8 {o : Ob} (h : RxN O w s l L T B P o W) (e0 e1 e2 e3 e4 e5 e6 e7 : Value) : (convert 35 9 (.slice (some ⟨B, 0, none⟩) L.length L.length)).run Tryz.prog ((((((((W.setCell ⟨P, 0, none⟩ e0).setCell ⟨P, 1, none⟩ e1).setCell ⟨P, 2, none⟩ e2).setCell ⟨P, 3, none⟩ e3).setCell ⟨P, 4, none⟩ e4).setCell ⟨P, 5, none⟩ e5).setCell ⟨P, 6, none⟩ e6).setCell ⟨P, 7, none⟩ e7) = .ok (.string ⟨L.toArray⟩) ((((((((W.setCell ⟨P, 0, none⟩ e0).setCell ⟨P, 1, none⟩ e1).setCell ⟨P, 2, none⟩ e2).setCell ⟨P, 3, none⟩ e3).setCell ⟨P, 4, none⟩ e4).setCell ⟨P, 5, none⟩ e5).setCell ⟨P, 6, none⟩ e6).setCell ⟨P, 7, none⟩ e7) := by
  have hq : B ≠ P := fun e => h.ne e.symm
  exact row_cvt (by rw [blk_far hq, blk_far hq, blk_far hq, blk_far hq, blk_far hq, blk_far hq, blk_far hq, blk_far hq]; exact h.m.row)
theorem s2bx (w : World) (t : ByteArray) (hT : t.data.toList = T) : ∃ a c w2, (convert 9 35 (.string t)).run Tryz.prog w = .ok (.slice a T.length c) w2 ∧ Src w2 a T ∧ Below w.heap.size w w2 := by
  obtain ⟨c, w2, h1, h2, h3, _⟩ := Cn.s2b w t
  have hl : t.size = T.length := by rw [← hT, size_list]
  rw [hl] at h1
  rw [hT] at h2
  exact ⟨_, c, w2, h1, h2, h3⟩
end
end Cv
end Go.Proofs.YtfilbfenpdaahaaGreatDoor
