/-
  Do of cvs, cvi and cvr, of a number and a string of 60 bytes.
-/
import Derived.Test.YtfilbfenpdaahaaGreatDoorCnvBkM
import Derived.Test.YtfilbfenpdaahaaGreatDoorCnvDoT
namespace Go.Proofs.YtfilbfenpdaahaaGreatDoor
open Go.RowKit
open St
open Stk
open Col
open Fx Dc
namespace Cv
theorem string60 {O : Nat → Prop} {w : World} {s : Nat} (h : Rep O w s 500 []) :
    Calls Tryz.prog 7 #[.pointer (some ⟨s, 0, none⟩), .int .i64 60] w fun e w' => e = .returned (.tuple #[(rmO 60).val, .int .i64 0]) ∧ ∃ l fr, Rep (Up O w w') w' s fr (gB z60 l) ∧ Frm O w w' := by
  refine (string_at h 60).mono ?_
  rintro e w' (⟨hne, _⟩ | ⟨_, rfl, l, hR, hF⟩)
  · exact absurd (by decide) hne
  · exact ⟨rfl, l, _, hR, hF⟩
/-- what a Do leaves that hands over just this -/
def OneP (O : Nat → Prop) (w : World) (ob : Ob) (R : World → Prop) (e : Ending) (w' : World) : Prop :=
  Frm O w w' ∧ R w' ∧ ∃ p', e = .returned (.tuple #[.slice p' 1 1, .int .i64 0]) ∧ Hnd w.heap.size p' [ob] w'
theorem one_of {O : Nat → Prop} {w : World} {ob : Ob} {R : World → Prop} {e : Ending} {w' : World} (h : DoP O (fun o er w2 => er = 0 ∧ o = ob ∧ R w2) w e w') : OneP O w ob R e w' := by
  obtain ⟨hF, o, er, ⟨rfl, rfl, hr⟩, ⟨hne, _⟩ | ⟨_, p', he, hh⟩⟩ := h
  · exact absurd rfl hne
  · exact ⟨hF, hr, p', he, hh⟩
theorem back_cvs {O : Nat → Prop} {w : World} {s c : Nat} {fr k n : Int} {l : Lay} {p : Option Addr} (h : Rep O w s fr (gB z60 l)) (hNp : ∀ ad, p = some ad → ¬ O ad.block) (hl : SrcO w p [numO k n, rmO 60]) (hk : k = 1 ∨ k = 2) (hn : -2147483648 ≤ n ∧ n ≤ 2147483647) (ht : Tab w) :
    Calls Tryz.prog 8 #[.pointer (some ⟨s, 0, none⟩), .string s_cvs, .slice p 2 c] w (OneP O w (rmO (txtN k n).length) fun w2 => Rep O w2 s fr (gL (txtN k n) l)) := by
  have h60 := txtN_len (k := k) hn
  have hz : z60.length = 60 := by decide
  have ht6 : Cn.txtL (gB z60 l) (numO k n) = txtN k n := txt_num _ hk
  refine (do_at (l := [numO k n, rmO 60]) h hl (by simp) (by simp) (fun o ho => ?_) known_cvs (fun o er w2 => er = 0 ∧ o = rmO (txtN k n).length ∧ Rep O w2 s fr (gL (txtN k n) l)) (fun w2 hb => ?_) (fun o er w1 w2 hq hb => ⟨hq.1, hq.2.1, hq.2.2.below hb⟩)).mono (fun e w' hd => one_of hd)
  · simp only [List.mem_cons, List.mem_nil_iff, or_false] at ho
    rcases ho with rfl | rfl
    · exact valid_num _ hk
    · exact valid_gB hz (by decide) (by decide)
  · refine (do_cvs (G' := gL (txtN k n) l) (q := rmO (txtN k n).length) (h.below hb) hNp (hl.below hb) (fun w3 hb3 => ?_)).mono (fun e w' hd => ⟨_, _, hd.1, hd.2.1, rfl, rfl, hd.2.2⟩)
    refine asText_at ((h.below hb).below hb3) rfl (acs_rm _ _) (Tab.below (Tab.below ht hb) hb3) ⟨by show _ ≤ n; omega, by show n ≤ _; omega⟩ ?_ ?_ ?_
    · rw [ht6]; exact part_gB hz h60
    · rw [ht6]; exact writeE_gB hz h60
    · rw [ht6]; exact writeR_gB hz h60
theorem num_str {O : Nat → Prop} {w : World} {s : Nat} {fr k n : Int} {l : Lay} {L : List UInt8} (h : Rep O w s fr (gL L l)) (h60 : L.length ≤ 60) (hk : k = 1 ∨ k = 2) (hT : tokR L = (k, n, true, 0)) (hm : Mx w) :
    Calls Tryz.prog 52 #[cw s, (rmO L.length).val] w (NumP (numO k n) w) := by
  have hb : bytesR (gL L l) (rmO L.length) = L := bytes_gB (gL_len h60)
  refine number_str h rfl (acs_rm _ _) ?_ hm ?_ hk ?_
  · unfold gL; rw [tld_gB (gL_len h60) (by omega) (by omega)]; simp
  · rw [hb]; omega
  · rw [hb]; exact hT
theorem back_cvi {O : Nat → Prop} {w : World} {s c : Nat} {fr n : Int} {l : Lay} {L : List UInt8} {p : Option Addr} (h : Rep O w s fr (gL L l)) (hl : SrcO w p [rmO L.length]) (h60 : L.length ≤ 60) (hT : tokR L = (1, n, true, 0)) (hm : Mx w) :
    Calls Tryz.prog 8 #[.pointer (some ⟨s, 0, none⟩), .string s_cvi, .slice p 1 c] w (OneP O w (numO 1 n) fun _ => True) := by
  refine (do_at (l := [rmO L.length]) h hl (by simp) (by simp) (fun o ho => ?_) known_cvi (fun o er w2 => er = 0 ∧ o = numO 1 n ∧ True) (fun w2 hb => ?_) (fun o er w1 w2 hq hb => hq)).mono (fun e w' hd => one_of hd)
  · simp only [List.mem_cons, List.mem_nil_iff, or_false] at ho
    rw [ho]; exact valid_gB (gL_len h60) (by omega) (by omega)
  · exact (do_cvi (hl.below hb) (fun w3 hb3 => asInt_of (fun w4 hb4 => num_str (((h.below hb).below hb3).below hb4) h60 (.inl rfl) hT (Mx.below (Mx.below (Mx.below hm hb) hb3) hb4)))).mono (fun e w' hd => ⟨_, _, hd.1, Frm.of_below hd.2, rfl, rfl, trivial⟩)
theorem back_cvr {O : Nat → Prop} {w : World} {s c : Nat} {fr n : Int} {l : Lay} {L : List UInt8} {p : Option Addr} (h : Rep O w s fr (gL L l)) (hl : SrcO w p [rmO L.length]) (h60 : L.length ≤ 60) (hT : tokR L = (2, n, true, 0)) (hm : Mx w) :
    Calls Tryz.prog 8 #[.pointer (some ⟨s, 0, none⟩), .string s_cvr, .slice p 1 c] w (OneP O w (numO 2 n) fun _ => True) := by
  refine (do_at (l := [rmO L.length]) h hl (by simp) (by simp) (fun o ho => ?_) known_cvr (fun o er w2 => er = 0 ∧ o = numO 2 n ∧ True) (fun w2 hb => ?_) (fun o er w1 w2 hq hb => hq)).mono (fun e w' hd => one_of hd)
  · simp only [List.mem_cons, List.mem_nil_iff, or_false] at ho
    rw [ho]; exact valid_gB (gL_len h60) (by omega) (by omega)
  · exact (do_cvr (hl.below hb) (fun w3 hb3 => asReal_of (fun w4 hb4 => num_str (((h.below hb).below hb3).below hb4) h60 (.inr rfl) hT (Mx.below (Mx.below (Mx.below hm hb) hb3) hb4)))).mono (fun e w' hd => ⟨_, _, hd.1, Frm.of_below hd.2, rfl, rfl, trivial⟩)
end Cv
end Go.Proofs.YtfilbfenpdaahaaGreatDoor
