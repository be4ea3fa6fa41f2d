/-
  A byte put to the string that is being read, the string as a token; digits behind a backslash, and whatever else stands behind it.
-/
import Derived.Test.YtaebpjcigajolaaScanWhile
import Derived.Laws.IdiomStrings
import Derived.Laws.BytesArg
namespace Go.Proofs.Ytaebpjcigajolaa
open Go.RowKit
open Sc
theorem u8_infoS : (Try.prog.info? 5).map (fun i => (i.zero, i.size, i.bytes)) = some (some (.int .u8 0), 1, 1) := by kernel_rfl
theorem src_oneS (W : World) (o : Value) (t : TypeId) : ∀ j u, [o][j]? = some u → (W.alloc (.cells #[o] t)).cell? ((⟨W.heap.size, 0, none⟩ : Addr).add j) = some u := by
  intro j u hj
  match j, hj with
  | 0, hj =>
    simp at hj; subst hj
    have ea : (⟨W.heap.size, 0, none⟩ : Addr).add 0 = ⟨W.heap.size, 0, none⟩ := rfl
    rw [ea, World.cell?_alloc_new]; rfl
theorem one_u8S (n : Int) : ∀ u ∈ [Value.int .u8 n], u.oneCell' = true := by
  intro u hu; simp at hu; subst hu; rfl
theorem owns_shape {w : World} {base n : Nat} {t : TypeId} {v : Value} {xs : List Value} (h : w.ownsRow base t 1 v n xs) : ∃ a c, v = .slice a n c := by
  rcases h.2 with ⟨rfl, rfl⟩ | ⟨g, cap, cur, rfl, _⟩
  · exact ⟨none, 0, rfl⟩
  · exact ⟨_, _, rfl⟩
/-- behind an append to the text and the store of it -/
theorem St.put {w w1 : World} {N R cap p : Nat} {ba : Option Addr} {l tx : List UInt8} (h : St w N R ba cap l p tx) {v v2 : Value} {c : UInt8} {o : Obj} (hv : w.cell? ⟨R, 2, none⟩ = some v) (hown0 : w.ownsRow (R + 1) 5 1 v tx.length (tx.map bv))
    (hown : w1.ownsRow (R + 1) 5 1 v2 (tx.length + 1) (tx.map bv ++ [.int .u8 c.toNat])) (hgr : (w.alloc o).grownBy w1 v.ownBlock) :
    St (w1.setCell ⟨R, 2, none⟩ v2) N R ba cap l p (tx ++ [c]) ∧ Fr R w (w1.setCell ⟨R, 2, none⟩ v2) ∧ w1.frozen? ⟨R, 2, none⟩ = false ∧ ∃ x, w1.cell? ⟨R, 2, none⟩ = some x := by
  have hlt := h.lt
  have hne : some R ≠ v.ownBlock := by
    intro e
    have := (hown0.lt R e.symm).1
    omega
  have hR : w1.heap[R]? = w.heap[R]? := (hgr.block R (by simp; omega) hne).trans (Below.heap_alloc _ _ _ hlt)
  have hb1 : Below N w w1 := ((Below.refl N w).alloc (by have := h.ge; omega) o).grown hgr (by have := h.ge; simp; omega) (fun k hk => by have := (hown0.lt k hk).1; have := h.ge; omega)
  have hb2 : Below N w (w1.setCell ⟨R, 2, none⟩ v2) := hb1.setCell h.ge _
  have e2 : w1.cell? ⟨R, 2, none⟩ = some v := (World.cell?_of_block (w := w) hR).trans hv
  have hfr : Fr R w w1 := ((Fr.refl R w).alloc o).trans ⟨hgr.os, hgr.tape, hgr.output, hgr.size, fun k hk hkR ho => hgr.block k hk (fun e => by
    rcases hown0.alloc o with ⟨_, ⟨rfl, _⟩ | ⟨g, c', cur, rfl, hg, hh, _⟩⟩
    · cases e
    · have ek : k = g := by simpa [Value.ownBlock] using e
      subst ek
      rcases ho with ho | ho
      · omega
      · exact ho _ _ hh)⟩
  refine ⟨⟨h.ge, by have := hb2.size; omega, h.le, h.cl, ?_, ?_, ⟨v2, World.cell?_setCell_same _ _ _ e2, ?_⟩, fun q => ?_, h.rd.below hb2⟩, hfr.put _ _, ?_, v, e2⟩
  · rw [World.cell?_setCell_other _ _ _ _ (by simp)]; exact (World.cell?_of_block (w := w) hR).trans h.c0
  · rw [World.cell?_setCell_other _ _ _ _ (by simp)]; exact (World.cell?_of_block (w := w) hR).trans h.c1
  · have := ownsRow_setCell_below hown (a := ⟨R, 2, none⟩) (by simp) v2
    simpa [bv] using this
  · rw [World.frozen?_setCell]; exact (World.frozen?_of_block (w := w) hR).trans (h.fz q)
  · exact (World.frozen?_of_block (w := w) hR).trans (h.fz 2)
theorem put_at {w : World} {N R cap p : Nat} {ba : Option Addr} {l tx : List UInt8} (h : St w N R ba cap l p tx) (ht : tx.length < 65535) (c : UInt8) :
    Calls Try.prog 54 #[.pointer (some ⟨R, 0, none⟩), .int .u8 c.toNat] w (Went N R ba cap l p (tx ++ [c]) (.tuple #[]) w) := by
  obtain ⟨v, hv, hown⟩ := h.c2
  obtain ⟨va, vc, rfl⟩ := owns_shape hown
  have f2 := h.fz 2
  have HS := Lib.hid h
  have HV := Lib.hid hv
  have HO := Lib.hid hown
  have HL := Lib.hid (show R + 1 ≤ w.heap.size from h.lt)
  obtain ⟨i0, hi, hz0, hz1, hz2⟩ := info_parts u8_infoS
  have HI := Lib.hid (And.intro hi (And.intro hz0 (And.intro hz1 hz2)))
  have hne : ((tx.length : Int) == 65535) = false := by
    have : ¬ (tx.length : Int) = 65535 := by omega
    simp [this]
  clear h hown hi hz0 hz1 hz2
  unfold Went
  go_enter Try.func54, Try.ntmps54
  go_wp2_with (at_builtin; refine wpList_append_own _ rfl (.tmp 15) (.tmp 17) 22 rfl (R + 1) 5 i0 (.int .u8 0) 1 1 Try.underlying22 HI.out.1 HI.out.2.1 HI.out.2.2.1 HI.out.2.2.2 rfl (by decide) (.slice va tx.length vc) tx.length (tx.map bv) rfl (HO.out.alloc _) ⟨w.heap.size, 0, none⟩ 1 1 [.int .u8 c.toNat] rfl rfl (src_oneS _ _ _) (one_u8S _) (by unfold maxLen; omega) (by omega) (by have := HL.out; simp; omega) ?_)
  intro v2 w3 hown2 hgr _
  obtain ⟨hst, hb, hf3, x, hx⟩ := HS.out.put HV.out HO.out hown2 hgr
  have HST := Lib.hid hst
  have HB := Lib.hid hb
  obtain ⟨va2, vc2, rfl⟩ := owns_shape hown2
  clear hst hb hown2 hgr hv
  go_wp2_with fail
  go_end0
  exact ⟨rfl, HST.out, HB.out⟩
theorem put_z {w : World} {N R cap p : Nat} {ba : Option Addr} {l tx : List UInt8} (h : St w N R ba cap l p tx) (ht : tx.length < 65535) (z : Int) (c : UInt8) (hz : z = c.toNat) :
    Calls Try.prog 54 #[.pointer (some ⟨R, 0, none⟩), .int .u8 z] w (Went N R ba cap l p (tx ++ [c]) (.tuple #[]) w) := by
  subst hz; exact put_at h ht c
/-- a token as a value -/
def tkV (k n : Int) (t : List UInt8) : Value := .agg #[.int .i64 k, .int .i64 n, .string ⟨t.toArray⟩]
theorem conv_owned {w : World} {base c : Nat} {a : Option Addr} {t : List UInt8} (h : w.ownsRow base 5 1 (.slice a t.length c) t.length (t.map bv)) :
    (convert 22 9 (.slice a t.length c)).run Try.prog w = .ok (.string ⟨t.toArray⟩) w := by
  rcases h.2 with ⟨e, hn⟩ | ⟨g, cap, cur, e, _⟩
  · have ht : t = [] := List.eq_nil_of_length_eq_zero hn
    subst ht
    cases e
    exact run_convert_bytes_nil w 22 5 Try.underlying22 Try.underlying5 0 0 9 Try.underlying9
  · cases e
    refine run_convert_bytes_back w 22 9 5 ⟨g, 0, none⟩ c t Try.underlying22 Try.underlying5 Try.underlying9 (fun j hj => ?_)
    refine h.cells (g := g) rfl j _ ?_
    rw [List.getElem?_map, List.getElem?_eq_getElem hj]; rfl
theorem results_tok1 {fn : Func} (hfn : fn.results = #[.cell 2 25]) (tmps : Array Value) (W : World) (B : Nat) (k n : Int) (t : ByteArray) (hp : tmps.getD 2 undef = .pointer (some ⟨B, 0, none⟩))
    (h0 : W.cell? ⟨B, 0, none⟩ = some (.int .i64 k)) (h1 : W.cell? ⟨B, 1, none⟩ = some (.int .i64 n)) (h2 : W.cell? ⟨B, 2, none⟩ = some (.string t)) :
    (results fn tmps).run Try.prog W = .ok (.agg #[.int .i64 k, .int .i64 n, .string t]) W := by
  have hp2 : tmps[2]?.getD undef = .pointer (some ⟨B, 0, none⟩) := by rw [← hp]; simp
  simp [results, hfn, go_sem, hp2, h0, h1, h2]
theorem stringToken_at {w : World} {N R cap p : Nat} {ba : Option Addr} {l tx : List UInt8} (h : St w N R ba cap l p tx) :
    Calls Try.prog 52 #[.pointer (some ⟨R, 0, none⟩)] w (Went N R ba cap l p tx (tkV 6 0 tx) w) := by
  obtain ⟨v, hv, hown⟩ := h.c2
  obtain ⟨va, vc, rfl⟩ := owns_shape hown
  have HS := Lib.hid h
  have hlt := h.lt
  have hcv := conv_owned (hown.alloc (Obj.cells #[.int .i64 0, .int .i64 0, .string ⟨#[]⟩] 25))
  clear h hown
  unfold Went tkV
  go_enter Try.func52, Try.ntmps52
  go_wp2_with fail
  refine bodyPost_ret (results_tok1 Try.results52 _ _ w.heap.size 6 0 ⟨tx.toArray⟩ rfl (by simp [go_sem]) (by simp [go_sem]) (by simp [go_sem])) rfl ⟨rfl, HS.out.alloc _, (Fr.refl _ _).alloc _⟩
end Go.Proofs.Ytaebpjcigajolaa
