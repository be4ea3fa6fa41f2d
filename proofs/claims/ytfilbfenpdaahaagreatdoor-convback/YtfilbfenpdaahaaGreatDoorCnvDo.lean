/-
  conv.Do, by the contract of what the worker does.
-/
import Derived.Test.YtfilbfenpdaahaaGreatDoorCnvAsk
namespace Go.Proofs.YtfilbfenpdaahaaGreatDoor
open Go.RowKit
open St
open Stk
open Col
namespace Cv
/-- what Do leaves -/
def DoP (O : Nat → Prop) (Q : Ob → Int → World → Prop) (w : World) (e : Ending) (w' : World) : Prop :=
  Frm O w w' ∧ ∃ o er, Q o er w' ∧ ((er ≠ 0 ∧ e = .returned (.tuple #[.slice none 0 0, .int .i64 er])) ∨ (er = 0 ∧ ∃ p', e = .returned (.tuple #[.slice p' 1 1, .int .i64 0]) ∧ Hnd w.heap.size p' [o] w'))
theorem frm_below {O : Nat → Prop} {w w2 w3 : World} (h : Frm O w w2) (hb : Below w2.heap.size w2 w3) : Frm O w w3 :=
  ⟨hb.os.trans h.os, hb.tape.trans h.tape, hb.output.trans h.output, Nat.le_trans h.size hb.size, fun k hk hO => (hb.block k (Nat.lt_of_lt_of_le hk h.size)).trans (h.block k hk hO)⟩
theorem below_frm {O : Nat → Prop} {w w1 w2 : World} (hb : Below w.heap.size w w1) (h : Frm O w1 w2) : Frm O w w2 :=
  ⟨h.os.trans hb.os, h.tape.trans hb.tape, h.output.trans hb.output, Nat.le_trans hb.size h.size, fun k hk hO => (h.block k (Nat.lt_of_lt_of_le hk hb.size) hO).trans (hb.block k hk)⟩
set_option maxRecDepth 100000 in
set_option maxHeartbeats 1000000 in
theorem do_at {O : Nat → Prop} {w : World} {s c : Nat} {fr : Int} {G : List (Th × Lay)} {p : Option Addr} {l : List Ob} {nm : ByteArray} (hr : Rep O w s fr G) (hl : SrcO w p l) (hl0 : l ≠ []) (hn : l.length ≤ 3) (hv : ∀ o ∈ l, valid G o = true)
    (hK : ∀ w, Calls Tryz.prog 17 #[.string nm] w fun e w' => e = .returned (.tuple #[.int .i64 l.length, .bool true]) ∧ w' = w) (Q : Ob → Int → World → Prop)
    (hD : ∀ w2, Below w.heap.size w w2 → Calls Tryz.prog 19 #[cw s, .string nm, .slice p l.length c] w2 fun e w' => ∃ o er, e = .returned (.tuple #[Ob.val o, .int .i64 er]) ∧ Frm O w2 w' ∧ Q o er w')
    (hQ : ∀ o er w1 w2, Q o er w1 → Below w1.heap.size w1 w2 → Q o er w2) :
    Calls Tryz.prog 8 #[.pointer (some ⟨s, 0, none⟩), .string nm, .slice p l.length c] w (DoP O Q w) := by
  obtain ⟨b, o, rfl, hblt, hc⟩ := Col.SrcO.plain hl hl0
  have HC := Lib.hid hc
  have HV := Lib.hid (fun (i : Nat) (x : Ob) (_ : l[i]? = some x) (w2 : World) (hb : Below w.heap.size w w2) => valid_at (w := w2) (hr.below hb) x)
  have HT := Lib.hid (fun (i : Nat) (x : Ob) (hx : l[i]? = some x) => hv x (List.mem_of_getElem? hx))
  have HK := Lib.hid hK
  have HD := Lib.hid hD
  have HQ := Lib.hid hQ
  have HO := Lib.hid hr.olt
  have H1 := Lib.hid (below1 w (cwC s))
  have hcw : (w.alloc (cwC s)).heap[w.heap.size]? = some (cwC s) := heap_alloc_new w _
  have HCw := Lib.hid hcw
  have H1l : Hid (w.heap.size < (w.alloc (cwC s)).heap.size) := Lib.hid (by simp)
  unfold cwC at H1 HCw H1l
  unfold cw at HD
  clear hl hc hK hD hQ hr hv hl0 hcw
  go_enter Tryz.func8, Tryz.ntmps8
  go_wp2_with fail
  refine (HK.out _).mono ?_; rintro e w1 ⟨rfl, rfl⟩
  go_wp2_with fail
  generalize hW : w1.alloc (.cells #[.pointer (some ⟨s, 0, none⟩)] 73) = W at *
  go_loopw [32] (fun v wr => ∃ k : Nat, v = .int .i64 k ∧ k ≤ l.length ∧ Below W.heap.size W wr) (fun v _ => l.length - (intOf v).toNat)
  case atStart => exact ⟨0, rfl, Nat.zero_le _, Below.refl _ _⟩
  case round =>
    obtain ⟨k, rfl, hk, hb⟩ := hrel
    have c0 : wr.cell? ⟨w1.heap.size, 0, none⟩ = some (.pointer (some ⟨s, 0, none⟩)) := (hb.cell (by exact H1l.out)).trans (cellCv HCw.out)
    have hbw := H1.out.trans (hb.mono H1.out.size)
    by_cases hlt : k < l.length
    · obtain ⟨x, hx⟩ : ∃ x, l[k]? = some x := ⟨_, List.getElem?_eq_getElem hlt⟩
      obtain ⟨x0, x1, x2, x3, x4, x5, x6, x7⟩ := ob_cells (fun j z hz => (hbw.cell (by exact hblt)).trans (HC.out j z hz)) hx
      have hB2 := bthen hb (below1 wr (obC x))
      have HX := Lib.hid (HV.out k x hx _ (H1.out.trans (hB2.mono H1.out.size)))
      rw [HT.out k x hx] at HX
      have HB2 := Lib.hid hB2
      unfold obC at HX HB2
      unfold Ob.val at HX
      have hW0 : w1.heap.size < wr.heap.size := Nat.lt_of_lt_of_le H1l.out hb.size
      clear hB2 hb hbw
      go_wp2_with fail
      refine HX.out.mono ?_; rintro e w2 ⟨rfl, hb2⟩
      have HB3 := Lib.hid (bthen HB2.out hb2)
      clear hb2
      go_wp2_with fail
      go_roundw
      case rel => exact ⟨k + 1, by go_num, by omega, HB3.out⟩
      case measure => simp [intOf]; omega
    · have hkl : k = l.length := by omega
      have HB2 := Lib.hid hbw
      have HDo := Lib.hid (HD.out wr hbw)
      clear hb hbw
      subst hkl
      go_wp2_with fail
      refine HDo.out.mono ?_; rintro e w2 ⟨ob, er, rfl, hF, hq⟩
      have HF := Lib.hid (below_frm HB2.out hF)
      have hq3 := HQ.out ob er w2 _ hq (below1 w2 (obC ob))
      have HF3 := Lib.hid (frm_below HF.out (below1 w2 (obC ob)))
      unfold obC at hq3 HF3
      have HQ3 := Lib.hid hq3
      clear hq hF hq3
      unfold Ob.val
      by_cases h0 : er = 0
      · subst h0
        go_wp2_with fail
        go_ret2
        have hb4 := below1 (w2.alloc (.cells #[.int .i64 ob.kind, .bool ob.exec, .int .i64 ob.acc, .int .i64 ob.n, .string ob.name, .int .i64 ob.ref, .int .i64 ob.frm, .int .i64 ob.len] 27)) (.cells #[.int .i64 ob.kind, .bool ob.exec, .int .i64 ob.acc, .int .i64 ob.n, .string ob.name, .int .i64 ob.ref, .int .i64 ob.frm, .int .i64 ob.len] 27)
        have hh := hnd_of (l := [ob]) (N := w1.heap.size) (w := w2.alloc (.cells #[.int .i64 ob.kind, .bool ob.exec, .int .i64 ob.acc, .int .i64 ob.n, .string ob.name, .int .i64 ob.ref, .int .i64 ob.frm, .int .i64 ob.len] 27)) (c := #[.int .i64 ob.kind, .bool ob.exec, .int .i64 ob.acc, .int .i64 ob.n, .string ob.name, .int .i64 ob.ref, .int .i64 ob.frm, .int .i64 ob.len]) (t := 27) HF3.out.size rfl
        have hsz : (w2.alloc (.cells #[.int .i64 ob.kind, .bool ob.exec, .int .i64 ob.acc, .int .i64 ob.n, .string ob.name, .int .i64 ob.ref, .int .i64 ob.frm, .int .i64 ob.len] 27)).heap.size = w2.heap.size + 1 := by simp
        rw [hsz] at hh
        exact ⟨frm_below HF3.out hb4, ob, 0, HQ.out _ _ _ _ HQ3.out hb4, Or.inr ⟨rfl, _, rfl, hh⟩⟩
      · have g0 : (er != 0) = true := by simp [h0]
        go_wp2_with fail
        go_ret2
        exact ⟨HF3.out, ob, er, HQ3.out, Or.inl ⟨h0, rfl⟩⟩
end Cv
end Go.Proofs.YtfilbfenpdaahaaGreatDoor
