/-
  Whether all operands are valid: coll.every, by a method value.
-/
import Derived.Test.YtmcopfcmnbhaaaaGreatColAsk
namespace Go.Proofs.YtmcopfcmnbhaaaaGreat
open Go.RowKit
open St
open Stk
namespace Col
set_option maxRecDepth 100000 in
set_option maxHeartbeats 1000000 in
theorem every_ok {O : Nat → Prop} {w : World} {s c : Nat} {fr : Int} {G : List (Th × Lay)} {a : Option Addr} {l : List Ob} (h : Rep O w s fr G) (hl : SrcO w a l) (hn : l.length ≤ 1000) (hv : ∀ o ∈ l, valid G o = true) :
    Calls Tryz.prog 41 #[.slice a l.length c, .func (.func 30) #[.pointer (some ⟨s, 0, none⟩)] #[]] w fun e w' => e = .returned (.bool true) ∧ Below w.heap.size w w' := by
  by_cases h0 : l = []
  · subst h0
    clear h hv hl
    go_enter Tryz.func41, Tryz.ntmps41
    go_wp2_with fail
    go_loopw [9] (fun v wr => v = .int .i64 0 ∧ wr = w) (fun _ _ => 0)
    case atStart => exact ⟨rfl, rfl⟩
    case round =>
      obtain ⟨rfl, rfl⟩ := hrel
      go_wp2_with fail
      go_ret
      exact ⟨rfl, Below.refl _ _⟩
  · obtain ⟨b, o, rfl, hblt, hc⟩ := SrcO.plain hl h0
    have HC := Lib.hid hc
    have HR := Lib.hid h
    have HV := Lib.hid (fun (i : Nat) (x : Ob) (_ : l[i]? = some x) (w2 : World) (hb : Below w.heap.size w w2) => valid_at (w := w2) (h.below hb) x)
    have HT := Lib.hid (fun (i : Nat) (x : Ob) (hx : l[i]? = some x) => hv x (List.mem_of_getElem? hx))
    clear h hv hl hc
    go_enter Tryz.func41, Tryz.ntmps41
    go_wp2_with fail
    go_loopw [9] (fun v wr => ∃ k : Nat, v = .int .i64 k ∧ k ≤ l.length ∧ Below w.heap.size w wr) (fun v _ => l.length - (intOf v).toNat)
    case atStart => exact ⟨0, rfl, Nat.zero_le _, Below.refl _ _⟩
    case round =>
      obtain ⟨k, rfl, hk, hb⟩ := hrel
      by_cases hlt : k < l.length
      · obtain ⟨x, hx⟩ : ∃ x, l[k]? = some x := ⟨_, List.getElem?_eq_getElem hlt⟩
        obtain ⟨x0, x1, x2, x3, x4, x5, x6, x7⟩ := ob_cells (fun j z hz => (hb.cell (by exact hblt)).trans (HC.out j z hz)) hx
        have hB2 := bthen hb (below1 wr (obC x))
        have HX := Lib.hid (HV.out k x hx _ hB2)
        rw [HT.out k x hx] at HX
        have HB2 := Lib.hid hB2
        unfold obC at HX HB2
        unfold Ob.val at HX
        clear hB2 hb
        go_wp2_with fail
        refine HX.out.mono ?_; rintro e w2 ⟨rfl, hb2⟩
        have HB3 := Lib.hid (bthen HB2.out hb2)
        clear hb2
        go_wp2_with fail
        go_roundw
        case rel => exact ⟨k + 1, by go_num, by omega, HB3.out⟩
        case measure => simp [intOf]; omega
      · have hkl : k = l.length := by omega
        have HB2 := Lib.hid hb
        clear hb
        subst hkl
        go_wp2_with fail
        go_ret
        exact ⟨rfl, HB2.out⟩
end Col
end Go.Proofs.YtmcopfcmnbhaaaaGreat
