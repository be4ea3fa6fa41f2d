/-
  coll.Do by the contract of the operator's own call: what it answers, or the error that it gives up with.
-/
import Derived.Test.YtmcopfcmnbhaaaaGreatColDo
import Derived.Test.YtmcopfcmnbhaaaaGreatColEvery
namespace Go.Proofs.YtmcopfcmnbhaaaaGreat
open Go.RowKit
open St
open Stk
namespace Col
def lstC : Obj := .cells #[.slice none 0 0] 34
def errC : Obj := .cells #[.int .i64 0] 24
theorem frm_do {O : Nat → Prop} {w w2 w3 w4 : World} (hb : Below w.heap.size w w2) (hF : Frm O w2 w3) (hG : Frm (fun k => k = w.heap.size ∨ k = w.heap.size + 1) w3 w4) : Frm O w w4 :=
  ⟨hG.os.trans (hF.os.trans hb.os), hG.tape.trans (hF.tape.trans hb.tape), hG.output.trans (hF.output.trans hb.output), Nat.le_trans hb.size (Nat.le_trans hF.size hG.size), fun k hk hO => by
    have h1 := hb.size
    have h2 := hF.size
    exact (hG.block k (by omega) (by omega)).trans ((hF.block k (by omega) hO).trans (hb.block k hk))⟩
set_option maxRecDepth 100000 in
set_option maxHeartbeats 2000000 in
theorem do_at {O : Nat → Prop} {w : World} {s c : Nat} {fr : Int} {G : List (Th × Lay)} {a : Option Addr} {l : List Ob} {nm : ByteArray} {Q : Option Addr → Nat → Nat → Int → World → Prop}
    (h : Rep O w s fr G) (hl : SrcO w a l) (hn : l.length ≤ 1000) (hv : ∀ o ∈ l, valid G o = true)
    (hQ : ∀ p n k x w3 w4, w.heap.size + 2 ≤ w3.heap.size → Frm (fun k => k = w.heap.size ∨ k = w.heap.size + 1) w3 w4 → Q p n k x w3 → Q p n k x w4)
    (hD : ∀ w2, Below w.heap.size w w2 → w.heap.size + 2 ≤ w2.heap.size → Calls Tryz.prog 43 #[cv s, .string nm, .slice a l.length c] w2 fun e w3 => Frm O w2 w3 ∧ ((∃ p n k, e = .returned (.slice p n k) ∧ Q p n k 0 w3) ∨ ∃ x, e = gu x ∧ Q none 0 0 x w3)) :
    Calls Tryz.prog 13 #[.pointer (some ⟨s, 0, none⟩), .string nm, .slice a l.length c] w fun e w' => ∃ p n k x, e = .returned (.tuple #[.slice p n k, .int .i64 x]) ∧ Q p n k x w' ∧ Frm O w w' := by
  have hb0 := below2 w lstC errC
  have HE := Lib.hid (every_ok (c := c) (h.below hb0) (hl.below hb0) hn hv)
  have hA0 : ((w.alloc lstC).alloc errC).heap[w.heap.size]? = some lstC := by
    rw [heap_alloc_old _ _ (by simp)]; exact heap_alloc_new w _
  have hE0 : ((w.alloc lstC).alloc errC).heap[w.heap.size + 1]? = some errC := by
    have := heap_alloc_new (w.alloc lstC) errC
    simpa using this
  have HB0 := Lib.hid hb0
  have HA0 := Lib.hid hA0
  have HE0 := Lib.hid hE0
  have HO := Lib.hid h.olt
  have HD := Lib.hid hD
  have HQ := Lib.hid hQ
  have hmf : ∀ (fn : Fn) (first cap : Array Value) (w : World), (Instr.makeFunc fn first cap).run Tryz.prog w = .ok (.func fn first cap) w := fun _ _ _ _ => rfl
  unfold lstC errC at HB0 HA0 HE0 HE
  clear h hl hn hv hQ hD hb0 hA0 hE0
  go_enter_defers Tryz.func13, Tryz.ntmps13
  go_wp2_with fail
  refine HE.out.mono ?_; rintro e w2 ⟨rfl, hb2⟩
  have hb3 := bthen HB0.out hb2
  have hv3 : Vrs w2 w.heap.size (w.heap.size + 1) (.slice none 0 0) 0 := ⟨(hb2.block _ (by simp; omega)).trans HA0.out, (hb2.block _ (by simp)).trans HE0.out⟩
  have hs3 : w.heap.size + 2 ≤ w2.heap.size := by have := hb2.size; simp at this; omega
  have hb4 := bthen hb3 (below1 w2 (cvC s))
  have HC := Lib.hid (HD.out _ hb4 (by simp; omega))
  have HV4 := Lib.hid (show Vrs (w2.alloc (cvC s)) w.heap.size (w.heap.size + 1) (.slice none 0 0) 0 from ⟨(heap_alloc_old _ _ (by omega)).trans hv3.1, (heap_alloc_old _ _ (by omega)).trans hv3.2⟩)
  have HB4 := Lib.hid hb4
  unfold cvC at HC HV4 HB4
  unfold cv at HC
  clear hb2 hb3 hv3 hb4 HE HA0 HE0 HB0
  go_wp2_with fail
  refine HC.out.mono ?_; rintro e w3 ⟨hF, hor⟩
  have hF3 := Lib.hid hF
  have hs4 : w.heap.size + 2 ≤ w3.heap.size := by have := hF.size; simp at this; omega
  have hv5 : Vrs w3 w.heap.size (w.heap.size + 1) (.slice none 0 0) 0 := ⟨(hF.block _ (by simp; omega) (fun e => by have := HO.out _ e; omega)).trans HV4.out.1, (hF.block _ (by simp; omega) (fun e => by have := HO.out _ e; omega)).trans HV4.out.2⟩
  clear hF HC HV4
  have HV5 := Lib.hid hv5
  rcases hor with ⟨p, n, k, rfl, hq⟩ | ⟨x, rfl, hq⟩
  · have HQ3 := Lib.hid hq
    obtain ⟨n0, e0, nf, ef⟩ := vrs_c hv5
    clear hv5 hq
    go_wp2_with fail
    obtain ⟨hv6, hf6⟩ := vrs_set HV5.out (by omega) (.slice p n k) 0
    have HQ6 := Lib.hid (HQ.out _ _ _ _ _ _ hs4 hf6 HQ3.out)
    have HF6 := Lib.hid (frm_do HB4.out hF3.out hf6)
    have HV6 := Lib.hid hv6
    clear hv6 hf6
    refine leaves_cons (f := 42) (args := #[.pointer (some ⟨w.heap.size, 0, none⟩), .pointer (some ⟨w.heap.size + 1, 0, none⟩)]) (by simp) (by simp [go_sem]) ?_
    refine (catch_idle _ _ _).mono ?_
    rintro e u' w7 ⟨rfl, rfl, hw7⟩
    have hv7 : Vrs w7 w.heap.size (w.heap.size + 1) (.slice p n k) 0 := by rw [hw7]; exact HV6.out
    have HQ7 : Hid (Q p n k 0 w7) := by rw [hw7]; exact HQ6.out
    have HF7 : Hid (Frm O w w7) := by rw [hw7]; exact HF6.out
    clear n0 e0 nf ef hw7 HQ6 HF6 HV6
    obtain ⟨t0, e0, _, _⟩ := vrs_c hv7
    simp [Leaves, settle, results, Tryz.results13, go_sem, t0, e0]
    exact ⟨p, n, k, 0, by simp, HQ7.out, HF7.out⟩
  · have HQ3 := Lib.hid hq
    unfold gu
    clear hv5 hq
    go_wp2_with fail
    refine leaves_cons (f := 42) (args := #[.pointer (some ⟨w.heap.size, 0, none⟩), .pointer (some ⟨w.heap.size + 1, 0, none⟩)]) (by simp) (by simp [go_sem]) ?_
    refine (catch_given _ _ x _ _ _ HV5.out (by omega)).mono ?_
    rintro e u' w7 ⟨rfl, rfl, hv7, hf7⟩
    have HQ7 := Lib.hid (HQ.out _ _ _ _ _ _ hs4 hf7 HQ3.out)
    have HF7 := Lib.hid (frm_do HB4.out hF3.out hf7)
    obtain ⟨t0, e0, _, _⟩ := vrs_c hv7
    clear hv7 hf7
    simp [Leaves, settle, results, Tryz.results13, go_sem, t0, e0]
    exact ⟨none, 0, 0, x, by simp, HQ7.out, HF7.out⟩
end Col
end Go.Proofs.YtmcopfcmnbhaaaaGreat
