/-
  What an array's part has, by a contract: Items.
-/
import Derived.Test.YtmcopfcmnbhaaaaGreatStoItems
namespace Go.Proofs.YtmcopfcmnbhaaaaGreat
open Go.RowKit
open St
theorem box1 {w w2 : World} {a : Obj} (h : Below (w.alloc a).heap.size (w.alloc a) w2) : w2.heap[w.heap.size]? = some a := (h.block _ (by simp)).trans (heap_alloc_new w a)
theorem cpy_end {B n : Nat} {l : List Ob} {w2 wr : World} (h : Cpy B n n l w2 wr) (hl : l.length = n) : wr.ownsRow 0 41 8 (.slice (some ⟨B, 0, none⟩) n n) n (l.flatMap Ob.cells) := by
  obtain ⟨_, xs, hx, he, ho⟩ := h
  have : xs = l := List.ext_getElem? (fun j => by
    rcases Nat.lt_or_ge j n with hj | hj
    · exact he j hj
    · rw [List.getElem?_eq_none (by omega), List.getElem?_eq_none (by omega)])
  rw [this] at ho; exact ho
theorem Cpy.drew {B n k : Nat} {l : List Ob} {w2 wr : World} (h : Cpy B n k l w2 wr) : Cpy B n k l w2 wr.drew := h.draws 1
theorem cpy_round {B n k : Nat} {l : List Ob} {w2 wr : World} {x : Ob} (h : Cpy B n k l w2 wr) (hB : w2.heap.size ≤ B) (hk : k < n) (hx : l[k]? = some x) : Cpy B n (k + 1) l w2 ((((((((wr.setCell ⟨B, k * 8, none⟩ (.int .i64 x.kind)).setCell ⟨B, k * 8 + 1, none⟩ (.bool x.exec)).setCell ⟨B, k * 8 + 2, none⟩ (.int .i64 x.acc)).setCell ⟨B, k * 8 + 3, none⟩ (.int .i64 x.n)).setCell ⟨B, k * 8 + 4, none⟩ (.string x.name)).setCell ⟨B, k * 8 + 5, none⟩ (.int .i64 x.ref)).setCell ⟨B, k * 8 + 6, none⟩ (.int .i64 x.frm)).setCell ⟨B, k * 8 + 7, none⟩ (.int .i64 x.len)).drew := by
  have := (h.next hB hk hx).drew
  unfold set8 at this
  exact this
set_option maxRecDepth 100000 in
set_option maxHeartbeats 1000000 in
theorem items_at {O : Nat → Prop} {w : World} {s : Nat} {fr : Int} {G : List (Th × Lay)} (h : Rep O w s fr G) (o : Ob) :
    Calls Tryz.prog 17 #[.pointer (some ⟨s, 0, none⟩), o.val] w (ItemsP G o w) := by
  have h2 := h.below (below1 w (obC o))
  obtain ⟨tv, hv⟩ := Rep.vw h2
  have HT := Lib.hid (told_rep h2 hv o 7)
  have HBX := Lib.hid (fun w2 hb => box1 (w := w) (w2 := w2) (a := obC o) hb)
  have HR := Lib.hid (fun w3 hb => h2.below (w' := w3) hb)
  have HV := Lib.hid (fun w3 hb => hv.below (w' := w3) hb)
  have hir : itemsR G o = match tld G o 7 with
    | some t => match G[t]? with
      | some y => (y.1.items.drop o.frm.toNat).take o.len.toNat
      | none => []
    | none => [] := rfl
  unfold ItemsP
  unfold obC at HT HR HV
  simp only [obC] at HBX
  unfold Ob.val at HT ⊢
  cases ht : tld G o 7 with
  | none =>
    rw [ht] at HT
    simp only [thP, Option.map_none] at HT
    clear hir ht h h2 hv HR HV HBX
    go_enter Tryz.func17, Tryz.ntmps17
    go_wp2_with fail
    refine HT.out.mono ?_; rintro e w3 ⟨rfl, hb⟩
    have HB := Lib.hid (bthen (below1 w _) hb)
    clear hb
    go_wp2_with fail
    exact bodyPost_ret (v := .tuple #[.slice none 0 0, .int .i64 21]) (by simp [results, Tryz.results17, go_sem]) rfl ⟨HB.out, .inl ⟨trivial, rfl⟩⟩
  | some t =>
    rw [ht] at HT hir
    simp only [thP, Option.map_some] at HT
    obtain ⟨b1, b2, b3, y, hy, hyk, hyl, hyL⟩ := tld_bounds h ht
    have hil := items_len7 hyk
    simp only [hy] at hir
    obtain ⟨L, hL⟩ : ∃ L : Nat, o.len = L := ⟨o.len.toNat, by omega⟩
    obtain ⟨F, hF⟩ : ∃ F : Nat, o.frm = F := ⟨o.frm.toNat, by omega⟩
    rw [hL, hF, Int.toNat_natCast, Int.toNat_natCast] at hir
    have hpl : (itemsR G o).length = L := by rw [hir]; simp; omega
    have hpg : ∀ k, k < L → (itemsR G o)[k]? = y.1.items[F + k]? := fun k hk => by rw [hir, List.getElem?_take, if_pos hk, List.getElem?_drop]
    rw [hpl]
    generalize itemsR G o = part at *
    have HLen := Lib.hid hL
    have HFrm := Lib.hid hF
    have hLb : L ≤ 65535 := by omega
    have hFL : F + L ≤ 65535 := by omega
    have hyL2 : y.1.items.length ≤ 65535 := by omega
    have hfi : F + L ≤ y.1.items.length := by omega
    have hmk := make_obs L hLb
    have HPG := Lib.hid hpg
    have HPL := Lib.hid hpl
    have HCell := Lib.hid (show ∀ w4 (hb : Below (w.alloc (.cells #[.int .i64 o.kind, .bool o.exec, .int .i64 o.acc, .int .i64 o.n, .string o.name, .int .i64 o.ref, .int .i64 o.frm, .int .i64 o.len] 41)).heap.size (w.alloc (.cells #[.int .i64 o.kind, .bool o.exec, .int .i64 o.acc, .int .i64 o.n, .string o.name, .int .i64 o.ref, .int .i64 o.frm, .int .i64 o.len] 41)) w4), w4.cell? ⟨blkOf tv, t * 7 + 3, none⟩ = some y.2.i ∧ ThR O w4 y.1 y.2 from fun w4 hb => by
      rcases (HV.out w4 hb).row with ⟨_, e⟩ | ⟨g, cap, e, _, hc⟩
      · rw [e] at hy; simp at hy
      · exact ⟨by rw [e]; exact hc t 3 y hy (by omega), (HR.out w4 hb).row t y hy⟩)
    clear hir ht h h2 hv HR HV hy hyk hL hF b1 b2 b3 hyl hyL hil hpl hpg
    go_enter Tryz.func17, Tryz.ntmps17
    go_wp2_with fail
    refine HT.out.mono ?_; rintro e w2 ⟨rfl, hb⟩
    obtain ⟨_, _, _, _, _, _, o6, o7⟩ := cellsOb (HBX.out w2 hb)
    rw [HLen.out] at o7
    have HB2 := Lib.hid hb
    clear hb o6
    go_wp2_with fail
    clear o7 hmk
    go_loopw [19] (fun v wr => ∃ k : Nat, v = .int .i64 k ∧ k ≤ L ∧ Cpy w2.heap.size L k part w2 wr) (fun v _ => L - (intOf v).toNat)
    case atStart => exact ⟨0, rfl, Nat.zero_le _, Cpy.start hLb⟩
    case round =>
      obtain ⟨k, rfl, hk, hcp⟩ := hrel
      have HCP := Lib.hid hcp
      by_cases hlt : k < L
      · have hFk : F + k < y.1.items.length := by omega
        obtain ⟨x, hx⟩ : ∃ x, y.1.items[F + k]? = some x := ⟨_, List.getElem?_eq_getElem hFk⟩
        have HX := Lib.hid ((HPG.out k hlt).trans hx)
        have hbr := bthen HB2.out hcp.1
        obtain ⟨_, _, _, _, _, _, o6, _⟩ := cellsOb (HBX.out wr hbr)
        rw [HFrm.out] at o6
        obtain ⟨hcell, hthr⟩ := HCell.out wr hbr
        obtain ⟨Bi, ci, _, ei, _⟩ := items_block hthr (by omega)
        rw [ei] at hcell
        obtain ⟨s0, s1, s2, s3, s4, s5, s6, s7⟩ := slot_read hthr ei hx
        obtain ⟨⟨v0, v1, v2, v3, v4, v5, v6, v7, d0, d1, d2, d3, d4, d5, d6, d7⟩, df⟩ := hcp.cells k hlt
        have hix0 : 0 ≤ (F : Int) + (k : Int) := by omega
        have hix1 : (F : Int) + (k : Int) < (y.1.items.length : Int) := by omega
        clear hx hbr hthr ei hcp
        go_wp2_with fail
        go_region
        all_goals go_wp2_with fail
        all_goals refine ⟨⟨k + 1, by go_num, by omega, ?_⟩, by simp [intOf]; omega⟩
        all_goals with_reducible exact cpy_round HCP.out (Nat.le_refl _) hlt HX.out
      · have hkL : k = L := by omega
        subst hkL
        clear hcp
        go_wp2_with fail
        exact bodyPost_ret (v := .tuple #[.slice (some ⟨w2.heap.size, 0, none⟩) k k, .int .i64 0]) (by simp [results, Tryz.results17, go_sem]) rfl ⟨bthen (bthen (below1 w _) HB2.out) HCP.out.1, .inr ⟨w2.heap.size, by have := (bthen (below1 w _) HB2.out).size; omega, by simp, rfl, cpy_end HCP.out HPL.out⟩⟩
end Go.Proofs.YtmcopfcmnbhaaaaGreat
