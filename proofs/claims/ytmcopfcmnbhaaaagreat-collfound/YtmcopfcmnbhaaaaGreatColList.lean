/-
  A new array of given items, by a contract: store.List.
-/
import Derived.Test.YtmcopfcmnbhaaaaGreatColLen
import Derived.Test.YtmcopfcmnbhaaaaGreatStoPut
import Derived.Test.YtmcopfcmnbhaaaaGreatStoPart
namespace Go.Proofs.YtmcopfcmnbhaaaaGreat
open Go.RowKit
open St
open Stk
namespace Col
theorem below_setcell {B : Nat} {x y : World} (h : Below B x y) (a : Addr) (v : Value) : Below B (x.setCell a v) (y.setCell a v) := by
  refine ⟨h.os, h.tape, h.output, by simpa [World.setCell] using h.size, fun k hk => ?_⟩
  simp only [World.setCell, Array.getElem?_modify, h.block k hk]
/-- the slots of a row of which the first k are set -/
def part8 (l : List Ob) (m k : Nat) : List Ob := l.take k ++ List.replicate (m - k) nul
theorem part8_len {l : List Ob} {m k : Nat} (hm : l.length = m) (hk : k ≤ m) : (part8 l m k).length = m := by simp [part8]; omega
theorem part8_set {l : List Ob} {m k : Nat} {x : Ob} (hm : l.length = m) (hx : l[k]? = some x) : (part8 l m k).set k x = part8 l m (k + 1) := by
  have hk : k < m := by rw [← hm]; exact (List.getElem?_eq_some_iff.1 hx).1
  have hx2 := (List.getElem?_eq_some_iff.1 hx).2
  apply List.ext_getElem
  · simp [part8]; omega
  · intro i h1 h2
    simp only [List.getElem_set, part8, List.getElem_append, List.length_take, List.getElem_take, List.getElem_replicate]
    by_cases e : k = i
    · subst e
      rw [if_pos rfl, dif_pos (by omega), hx2]
    · rw [if_neg e]
      by_cases h : i < k
      · rw [dif_pos (by omega), dif_pos (by omega)]
      · rw [dif_neg (by omega), dif_neg (by omega)]
theorem src_items {w : World} {a : Option Addr} {l : List Ob} (h : SrcO w a l) (k : Nat) (x : Ob) (hx : l[k]? = some x) :
    ∃ b f, a = some ⟨b, f, none⟩ ∧ b < w.heap.size ∧ w.cell? ⟨b, f + k * 8, none⟩ = some (.int .i64 x.kind) ∧ w.cell? ⟨b, f + k * 8 + 1, none⟩ = some (.bool x.exec) ∧ w.cell? ⟨b, f + k * 8 + 2, none⟩ = some (.int .i64 x.acc) ∧ w.cell? ⟨b, f + k * 8 + 3, none⟩ = some (.int .i64 x.n) ∧
    w.cell? ⟨b, f + k * 8 + 4, none⟩ = some (.string x.name) ∧ w.cell? ⟨b, f + k * 8 + 5, none⟩ = some (.int .i64 x.ref) ∧ w.cell? ⟨b, f + k * 8 + 6, none⟩ = some (.int .i64 x.frm) ∧ w.cell? ⟨b, f + k * 8 + 7, none⟩ = some (.int .i64 x.len) := by
  obtain ⟨b, f, e, hb, hc⟩ := SrcO.plain h (fun e => by subst e; simp at hx)
  exact ⟨b, f, e, hb, ob_cells hc hx⟩
theorem set8_below {N B o : Nat} {w w' : World} {x : Ob} (h : Below N w w') (hB : N ≤ B) : Below N w (set8 w' B o x) := by
  obtain ⟨e1, e2, e3⟩ := set8_env w' B o x
  exact ⟨e1.trans h.os, e2.trans h.tape, e3.trans h.output, by rw [set8_size]; exact h.size, fun k hk => (set8_far (by omega)).trans (h.block k hk)⟩
/-- a row of objects is not the store's own block -/
theorem src_far {O : Nat → Prop} {w wr : World} {s : Nat} {fr : Int} {G : List (Th × Lay)} {a : Option Addr} {l : List Ob} (h : Rep O w s fr G) (hS : SrcO w a l) (hk : ∀ k, k < w.heap.size → k ≠ s → wr.heap[k]? = w.heap[k]?) : SrcO wr a l := by
  by_cases hl : l = []
  · exact .inl hl
  · obtain ⟨b, f, rfl, hb, hc⟩ := SrcO.plain hS hl
    obtain ⟨x, t, rfl⟩ := List.exists_cons_of_ne_nil hl
    have h1 := hc 1 (.bool x.exec) rfl
    have hne : b ≠ s := fun e => by
      subst e
      obtain ⟨tv, am, cm, ac, cc, hb, ht, _⟩ := h.blk
      obtain ⟨ta, tc, rfl⟩ := own_slice ht
      rw [blk_cell hb (f + 1)] at h1
      rcases f with _ | _ | _ | _ | _ | f <;> simp at h1
    exact .inr ⟨⟨b, f, none⟩, rfl, fun j z hz => by
      rw [Addr.add_lit, World.cell?_of_block (w := w) (hk b hb hne)]; exact hc j z hz⟩
theorem own_at {w : World} {g n c size : Nat} {e : TypeId} {xs : List Value} (h : w.ownsRow 0 e size (.slice (some ⟨g, 0, none⟩) n c) n xs) : ∃ cur, w.heap[g]? = some (.cells cur e (0, 0)) := by
  rcases h.2 with ⟨e, _⟩ | ⟨g', cap, cur, e, _, hg, _⟩
  · cases e
  · cases e; exact ⟨cur, hg⟩
theorem afterC_far {w w3 : World} {s : Nat} {v : Int} (h : Below (w.heap.size + 1) (afterC w s v) w3) (k : Nat) (hk : k < w.heap.size) (hs : k ≠ s) : w3.heap[k]? = w.heap[k]? := by
  rw [h.block k (by omega)]
  unfold afterC
  rw [blk_far hs, heap_alloc_old _ _ hk]
set_option maxRecDepth 100000 in
set_option maxHeartbeats 2000000 in
theorem list_at {O : Nat → Prop} {w : World} {s c : Nat} {fr : Int} {G : List (Th × Lay)} {a : Option Addr} {l : List Ob} (h : Rep O w s fr G) (hS : SrcO w a l) (hv : ∀ o ∈ l, valid G o = true) (hln : l.length ≤ 100000) :
    Calls Tryz.prog 15 #[.pointer (some ⟨s, 0, none⟩), .slice a l.length c] w (Made O w s fr G ⟨7, [], l, [], 0, 0⟩ 7 l.length) := by
  have HB0 := Lib.hid (below1 w (.cells zeroOb 41))
  have HX0 := Lib.hid (heap_alloc_new w (.cells zeroOb 41))
  have HSrc := Lib.hid (fun w2 (hb : Below w.heap.size w w2) => src_items (hS.below hb))
  have HVal := Lib.hid (fun (i : Nat) (x : Ob) (_ : l[i]? = some x) (w2 : World) (hb : Below w.heap.size w w2) => valid_at (w := w2) (h.below hb) x)
  have HT := Lib.hid (fun (i : Nat) (x : Ob) (hx : l[i]? = some x) => hv x (List.mem_of_getElem? hx))
  have HRep := Lib.hid h
  have HFar := Lib.hid (fun wr hk => src_items (src_far (wr := wr) h hS hk))
  unfold zeroOb at HB0 HX0
  clear hS hv
  go_enter Tryz.func15, Tryz.ntmps15
  go_wp2_with fail
  go_loopw [14] (fun v wr => ∃ k : Nat, v = .int .i64 k ∧ k ≤ l.length ∧ Below (w.heap.size + 1) (w.alloc (.cells #[.int .i64 0, .bool false, .int .i64 0, .int .i64 0, .string ⟨#[]⟩, .int .i64 0, .int .i64 0, .int .i64 0] 41)) wr) (fun v _ => l.length - (intOf v).toNat)
  case atStart => exact ⟨0, rfl, Nat.zero_le _, by have := Below.refl (w.heap.size + 1) (w.alloc (.cells #[.int .i64 0, .bool false, .int .i64 0, .int .i64 0, .string ⟨#[]⟩, .int .i64 0, .int .i64 0, .int .i64 0] 41)); exact this⟩
  case round =>
    obtain ⟨k, rfl, hk, hb⟩ := hrel
    have hbw : Below w.heap.size w wr := HB0.out.trans (hb.mono (by omega))
    by_cases hlt : k < l.length
    · obtain ⟨x, hx⟩ : ∃ x, l[k]? = some x := ⟨_, List.getElem?_eq_getElem hlt⟩
      obtain ⟨b, f, rfl, hblt, x0, x1, x2, x3, x4, x5, x6, x7⟩ := HSrc.out wr hbw k x hx
      have hV := HVal.out k x hx _ (bthen hbw (below1 wr (obC x)))
      rw [HT.out k x hx] at hV
      have HV := Lib.hid hV
      have hsz : w.heap.size + 1 ≤ wr.heap.size := by have := hb.size; simpa using this
      have HB2 := Lib.hid (hb.trans ((below1 wr (obC x)).mono hsz))
      unfold obC at HV HB2
      unfold Ob.val at HV
      clear hV hb hbw
      go_wp2_with fail
      refine HV.out.mono ?_; rintro e w2 ⟨rfl, hb2⟩
      have HB3 := Lib.hid (HB2.out.trans (hb2.mono (by simp; omega)))
      clear hb2
      go_wp2_with fail
      go_roundw
      case rel => exact ⟨k + 1, by go_num, by omega, HB3.out⟩
      case measure => simp [intOf]; omega
    · have hkl : k = l.length := by omega
      subst hkl
      have hR := HRep.out.below hbw
      have HCl := Lib.hid (claim_rep hR 7 l.length)
      have HBw := Lib.hid hbw
      have HB1 := Lib.hid hb
      clear hb hbw hR
      by_cases hc : clm 7 l.length fr = 0
      · have hm : l.length ≤ 65535 := by have := (clm_zero hc).2.1; unfold mostI at this; simp at this; omega
        simp only [hc, if_true] at HCl
        have HC := Lib.hid hc
        have HMk := Lib.hid (make_slots l.length hm)
        have hmk := make_slots l.length hm
        clear hc
        go_wp2_with fail
        refine HCl.out.mono ?_; rintro e w3 ⟨rfl, rfl⟩
        have hb3 : Below (w.heap.size + 1) (afterC w s (fr - cellsI 7 l.length)) (wr.setCell ⟨s, 2, none⟩ (.int .i64 (fr - cellsI 7 l.length))) := below_setcell HB1.out _ _
        generalize wr.setCell ⟨s, 2, none⟩ (.int .i64 (fr - cellsI 7 l.length)) = w3 at *
        have hs3 : w.heap.size + 1 ≤ w3.heap.size := by have := hb3.size; rw [afterC_size] at this; exact this
        have HB3 := Lib.hid hb3
        clear hb3 HB1 HBw HCl
        go_wp2_with fail
        have hbs := below1 w3 (.cells (nulls l.length) 108)
        have hrow0 : (w3.alloc (.cells (nulls l.length) 108)).ownsRow 0 108 9 (.slice (some ⟨w3.heap.size, 0, none⟩) l.length l.length) l.length ((part8 l l.length 0).flatMap slotC) := by
          have := own_of_block (size := 9) (heap_alloc_new w3 (.cells (nulls l.length) 108)) hm (nulls_size l.length)
          rw [nulls_list] at this
          simpa [part8] using this
        have HRow0 := Lib.hid hrow0
        have HBs := Lib.hid hbs
        clear hrow0 hbs hmk
        go_loopw [37] (fun v wr => ∃ k : Nat, v = .int .i64 k ∧ k ≤ l.length ∧ Below w3.heap.size w3 wr ∧ w3.heap.size + 1 ≤ wr.heap.size ∧ wr.ownsRow 0 108 9 (.slice (some ⟨w3.heap.size, 0, none⟩) l.length l.length) l.length ((part8 l l.length k).flatMap slotC)) (fun v _ => l.length - (intOf v).toNat)
        case atStart => exact ⟨0, rfl, Nat.zero_le _, HBs.out, by simp, HRow0.out⟩
        case round =>
          obtain ⟨k, rfl, hk, hb, hsz, hrow⟩ := hrel
          by_cases hlt : k < l.length
          · obtain ⟨x, hx⟩ : ∃ x, l[k]? = some x := ⟨_, List.getElem?_eq_getElem hlt⟩
            obtain ⟨b, f, rfl, hblt, x0, x1, x2, x3, x4, x5, x6, x7⟩ := HFar.out wr (fun k hk hs => (hb.block k (by omega)).trans (afterC_far HB3.out k hk hs)) k x hx
            obtain ⟨cur, hcur⟩ := own_at hrow
            have hset := set8_own hrow (k * 9) x
            rw [lset8_slots x _ k (by rw [part8_len rfl hk]; exact hlt), part8_set rfl hx] at hset
            have HSet := Lib.hid hset
            have HRow := Lib.hid (And.intro hrow hcur)
            have hlt3 : w3.heap.size < wr.heap.size := hsz
            have hnu : (part8 l l.length k)[k]? = some nul := by
              simp only [part8, List.getElem?_append, List.length_take]
              rw [if_neg (by omega), List.getElem?_replicate, if_pos (by omega)]
            obtain ⟨y0, y1, y2, y3, y4, y5, y6, y7⟩ : wr.cell? ⟨w3.heap.size, k * 9, none⟩ = some (.int .i64 0) ∧ wr.cell? ⟨w3.heap.size, k * 9 + 1, none⟩ = some (.bool false) ∧ wr.cell? ⟨w3.heap.size, k * 9 + 2, none⟩ = some (.int .i64 0) ∧ wr.cell? ⟨w3.heap.size, k * 9 + 3, none⟩ = some (.int .i64 0) ∧ wr.cell? ⟨w3.heap.size, k * 9 + 4, none⟩ = some (.string ⟨#[]⟩) ∧ wr.cell? ⟨w3.heap.size, k * 9 + 5, none⟩ = some (.int .i64 0) ∧ wr.cell? ⟨w3.heap.size, k * 9 + 6, none⟩ = some (.int .i64 0) ∧ wr.cell? ⟨w3.heap.size, k * 9 + 7, none⟩ = some (.int .i64 0) := by
              have hf : ∀ f z, f < 9 → (slotC nul)[f]? = some z → wr.cell? ⟨w3.heap.size, k * 9 + f, none⟩ = some z := fun f z hf hz => by
                rw [hrow.cellAt (k * 9 + f) (by omega), slots_at _ k f _ hnu hf]; exact hz
              exact ⟨hf 0 _ (by omega) rfl, hf 1 _ (by omega) rfl, hf 2 _ (by omega) rfl, hf 3 _ (by omega) rfl, hf 4 _ (by omega) rfl, hf 5 _ (by omega) rfl, hf 6 _ (by omega) rfl, hf 7 _ (by omega) rfl⟩
            have hfz : ∀ o, wr.frozen? ⟨w3.heap.size, o, none⟩ = false := fun o => blk_free hcur o
            have HBr := Lib.hid hb
            clear hset hrow hcur hb hnu
            go_wp2_with fail
            go_roundw
            case rel =>
              refine ⟨k + 1, by go_num, by omega, ?_, ?_, ?_⟩
              · exact (set8_below (o := k * 9) (x := x) HBr.out (Nat.le_refl _)).trans ((below1 (set8 wr w3.heap.size (k * 9) x) _).mono (by rw [set8_size]; omega))
              · have := set8_size wr w3.heap.size (k * 9) x
                have h2 : ((set8 wr w3.heap.size (k * 9) x).alloc (obC x)).heap.size = wr.heap.size + 1 := by simp [this]
                exact Nat.le_trans (by omega) (Nat.le_of_eq h2.symm)
              · exact HSet.out.alloc _
            case measure => simp [intOf]; omega
          · have hkl : k = l.length := by omega
            rw [hkl] at hrow ⊢
            have hp8 : part8 l l.length l.length = l := by simp [part8]
            rw [hp8] at hrow
            have hRC := ready_call (t := ⟨7, [], l, [], 0, 0⟩) (l := ⟨.slice none 0 0, .slice (some ⟨w3.heap.size, 0, none⟩) l.length l.length, .slice none 0 0⟩) (w3 := wr) HRep.out HC.out (by decide) (HB3.out.trans (hb.mono hs3))
              ⟨World.ownsRow_nil _ _ _ _, hrow, World.ownsRow_nil _ _ _ _, fun k hk => (by cases hk), the_own (O := fun k => w.heap.size + 1 ≤ k ∧ k < wr.heap.size) ⟨hs3, by omega⟩, fun k hk => (by cases hk), by simp, hm, by simp, by simp⟩
            unfold thV at hRC
            have HR := Lib.hid hRC
            have HM := Lib.hid (show ∀ e w', (e = Ending.returned (.tuple #[(newOb ⟨7, [], l, [], 0, 0⟩ G.length).val, .int .i64 0]) ∧ ∃ y, Rep (Up O w w') w' s (fr - cellsI 7 l.length) (G ++ [(⟨7, [], l, [], 0, 0⟩, y)]) ∧ Frm O w w') → Made O w s fr G ⟨7, [], l, [], 0, 0⟩ 7 l.length e w' from fun e w' hh => .inr ⟨HC.out, hh⟩)
            clear hRC hb hrow hkl
            go_wp2_with fail
            refine HR.out.mono ?_; rintro e w4 ⟨rfl, hB, hfin⟩
            obtain ⟨d0, d1, d2, d3, d4, d5, d6, d7, df⟩ := box_cells hB
            have HBb := Lib.hid hB
            have HF := Lib.hid hfin
            clear hB hfin
            simp only [newOb, Ob.val]
            go_wp2_with fail
            have hp := put8 HBb.out (.int .i64 7) (.bool false) (.int .i64 0) (.int .i64 0) (.string ⟨#[]⟩) (.int .i64 ((G.length : Int) + 1)) (.int .i64 0) (.int .i64 (Th.length ⟨7, [], l, [], 0, 0⟩))
            exact bodyPost_ret (results_ob2 Tryz.results15 _ _ w.heap.size rfl rfl hp.blk) rfl (HM.out _ _ ⟨rfl, HF.out _ _ _ _ _ _ _ _ _ hp⟩)
      · have hcn : (clm 7 l.length fr != 0) = true := by simp [hc]
        simp only [hc, if_false] at HCl
        have HM := Lib.hid (show ∀ e w', (e = Ending.returned (.tuple #[nul.val, .int .i64 (clm 7 l.length fr)]) ∧ Below w.heap.size w w') → Made O w s fr G ⟨7, [], l, [], 0, 0⟩ 7 l.length e w' from fun e w' hh => .inl ⟨hc, hh⟩)
        have hBx : wr.heap[w.heap.size]? = some (.cells zeroOb 41 (0, 0)) := (HB1.out.block _ (by simp)).trans HX0.out
        have HBx := Lib.hid hBx
        clear hc
        go_wp2_with fail
        refine HCl.out.mono ?_; rintro e w3 ⟨rfl, rfl⟩
        obtain ⟨d0, d1, d2, d3, d4, d5, d6, d7, df⟩ := box_cells hBx
        clear hBx
        go_wp2_with fail
        have hp := put8 HBx.out (.int .i64 0) (.bool false) (.int .i64 0) (.int .i64 0) (.string ⟨#[]⟩) (.int .i64 0) (.int .i64 0) (.int .i64 0)
        exact bodyPost_ret (results_ob2 Tryz.results15 _ _ w.heap.size rfl rfl hp.blk) rfl (HM.out _ _ ⟨rfl, below_put8 HBw.out (Nat.le_refl _) hp⟩)
end Col
end Go.Proofs.YtmcopfcmnbhaaaaGreat
