/-
  What is put into an array, by a contract: Put.
-/
import Derived.Test.YtmcopfcmnbhaaaaGreatStoPut2
import Derived.Test.YtmcopfcmnbhaaaaGreatStoPart
namespace Go.Proofs.YtmcopfcmnbhaaaaGreat
open Go.RowKit
open St
/-- behind Put: x has come to its place, or why not -/
def PutP (O : Nat → Prop) (w : World) (s : Nat) (fr : Int) (G : List (Th × Lay)) (o : Ob) (i : Int) (x : Ob) (e : Ending) (w' : World) : Prop :=
  e = .returned (.int .i64 (putE G o i x)) ∧ ((putE G o i x ≠ 0 ∧ Below w.heap.size w w') ∨ (putE G o i x = 0 ∧ ∃ t, tld G o 7 = some t ∧ Rep O w' s fr (putG G t (o.frm + i).toNat x) ∧ Frm O w w'))
theorem frm_set8 {O : Nat → Prop} {w w2 : World} {B o : Nat} {x : Ob} (hb : Below w.heap.size w w2) (hO : O B) : Frm O w (set8 w2 B o x) := by
  obtain ⟨e1, e2, e3⟩ := set8_env w2 B o x
  exact ⟨e1.trans hb.os, e2.trans hb.tape, e3.trans hb.output, by rw [set8_size]; exact hb.size, fun k hk hk2 => (set8_far (fun e => hk2 (by rw [e]; exact hO))).trans (hb.block k hk)⟩
theorem two_boxes {w w3 : World} {o x : Ob} (h : Below ((w.alloc (obC o)).alloc (obC x)).heap.size ((w.alloc (obC o)).alloc (obC x)) w3) : w3.heap[w.heap.size]? = some (obC o) ∧ w3.heap[w.heap.size + 1]? = some (obC x) := below_z h
theorem items_len {x : Th} (h : x.kind = 7) : x.length = x.items.length := by unfold Th.length; rw [if_neg (by omega), if_pos h]
set_option maxRecDepth 100000 in
set_option maxHeartbeats 1000000 in
theorem put_at {O : Nat → Prop} {w : World} {s : Nat} {fr : Int} {G : List (Th × Lay)} (h : Rep O w s fr G) (o : Ob) (i : Int) (x : Ob) :
    Calls Tryz.prog 121 #[.pointer (some ⟨s, 0, none⟩), o.val, .int .i64 i, x.val] w (PutP O w s fr G o i x) := by
  have h2 := h.below (below2 w (obC o) (obC x))
  obtain ⟨tv, hv⟩ := Rep.vw h2
  have HT := Lib.hid (told_rep h2 hv o 7)
  have HBX := Lib.hid (fun w3 hb => two_boxes (w := w) (w3 := w3) (o := o) (x := x) hb)
  have HR := Lib.hid (fun w3 hb => h2.below (w' := w3) hb)
  have HV := Lib.hid (fun w3 hb => hv.below (w' := w3) hb)
  have hpe : putE G o i x = if tld G o 7 = none then 21 else if valid G x = true then (if liesB i 1 o.len = true then 0 else 11) else 21 := rfl
  have HP := Lib.hid (show ∀ e w', e = Ending.returned (.int .i64 (putE G o i x)) → ((putE G o i x ≠ 0 ∧ Below w.heap.size w w') ∨ (putE G o i x = 0 ∧ ∃ t, tld G o 7 = some t ∧ Rep O w' s fr (putG G t (o.frm + i).toNat x) ∧ Frm O w w')) → PutP O w s fr G o i x e w' from fun e w' a b => ⟨a, b⟩)
  unfold obC at HT HR HV
  simp only [obC] at HBX
  unfold Ob.val at HT
  simp only [Ob.val]
  cases ht : tld G o 7 with
  | none =>
    rw [ht, if_pos rfl] at hpe
    rw [hpe, ht] at HP
    rw [ht] at HT
    simp only [thP, Option.map_none] at HT
    clear hpe ht h h2 hv HR HV HBX
    go_enter Tryz.func121, Tryz.ntmps121
    go_wp2_with fail
    refine HT.out.mono ?_; rintro e w3 ⟨rfl, hb⟩
    have HB := Lib.hid (bthen (below2 w _ _) hb)
    clear hb
    go_wp2_with fail
    go_ret
    exact HP.out _ _ rfl (.inl ⟨by decide, HB.out⟩)
  | some t =>
    rw [ht, if_neg (by simp)] at hpe
    rw [ht] at HT HP
    simp only [thP, Option.map_some] at HT
    obtain ⟨b1, b2, b3, y, hy, hyk, hyl, hyL⟩ := tld_bounds h ht
    obtain ⟨L, hL⟩ : ∃ L : Nat, o.len = L := ⟨o.len.toNat, by omega⟩
    have HLen := Lib.hid hL
    have hLb : L ≤ 65535 := by omega
    have HVx := Lib.hid (fun w3 hb => valid_at (w := w3) (HR.out w3 hb) x)
    unfold Ob.val at HVx
    cases hvx : valid G x with
    | false =>
      rw [hvx, if_neg (by decide)] at hpe
      rw [hpe] at HP
      rw [hvx] at HVx
      clear hpe ht h h2 hv HR HV hvx b1 b2 b3 hy hyk hyl hyL hL
      go_enter Tryz.func121, Tryz.ntmps121
      go_wp2_with fail
      refine HT.out.mono ?_; rintro e w3 ⟨rfl, hb⟩
      obtain ⟨x0, x1, x2, x3, x4, x5, x6, x7⟩ := cellsOb (HBX.out w3 hb).2
      have HVx3 := Lib.hid (HVx.out w3 hb)
      have HB3 := Lib.hid hb
      clear hb HVx HBX
      go_wp2_with fail
      refine HVx3.out.mono ?_; rintro e w4 ⟨rfl, hb4⟩
      have HB := Lib.hid (bthen (below2 w _ _) (bthen HB3.out hb4))
      clear hb4 x0 x1 x2 x3 x4 x5 x6 x7 HVx3
      go_wp2_with fail
      go_ret
      exact HP.out _ _ rfl (.inl ⟨by decide, HB.out⟩)
    | true =>
      rw [hvx, if_pos rfl, hL] at hpe
      rw [hvx] at HVx
      have HLi := Lib.hid (fun w => lies_at i 1 L (by omega) w)
      cases hl : liesB i 1 L with
      | false =>
        rw [hl, if_neg (by decide)] at hpe
        rw [hpe] at HP
        rw [hl] at HLi
        clear hpe ht h h2 hv HR HV hvx b1 b2 b3 hy hyk hyl hyL hl hL
        go_enter Tryz.func121, Tryz.ntmps121
        go_wp2_with fail
        refine HT.out.mono ?_; rintro e w3 ⟨rfl, hb⟩
        obtain ⟨x0, x1, x2, x3, x4, x5, x6, x7⟩ := cellsOb (HBX.out w3 hb).2
        have HVx3 := Lib.hid (HVx.out w3 hb)
        have HB3 := Lib.hid hb
        clear hb HVx
        go_wp2_with fail
        refine HVx3.out.mono ?_; rintro e w4 ⟨rfl, hb4⟩
        have hbb := bthen HB3.out hb4
        have HB := Lib.hid (bthen (below2 w _ _) hbb)
        obtain ⟨_, _, _, _, _, _, o6, o7⟩ := cellsOb (HBX.out w4 hbb).1
        rw [HLen.out] at o7
        clear hb4 hbb x0 x1 x2 x3 x4 x5 x6 x7 HVx3 HBX
        go_wp2_with fail
        refine (HLi.out _).mono ?_; rintro e w5 ⟨rfl, rfl⟩
        go_wp2_with fail
        go_ret
        exact HP.out _ _ rfl (.inl ⟨by decide, HB.out⟩)
      | true =>
        rw [hl, if_pos rfl] at hpe
        rw [hpe] at HP
        rw [hl] at HLi
        have hlb := liesB_iff.1 hl
        have hil := items_len hyk
        obtain ⟨F, hF⟩ : ∃ F : Nat, o.frm = F := ⟨o.frm.toNat, by omega⟩
        obtain ⟨I, rfl⟩ : ∃ I : Nat, i = I := ⟨i.toNat, by omega⟩
        have hpl : F + I < y.1.items.length := by omega
        have hFI : F + I ≤ 65535 := by omega
        rw [show (o.frm + (I : Int)).toNat = F + I by omega] at HP
        have HFrm := Lib.hid hF
        have hil2 : y.1.items.length ≤ 65535 := by omega
        have hix0 : 0 ≤ (F : Int) + (I : Int) := by omega
        have hix1 : (F : Int) + (I : Int) < (y.1.items.length : Int) := by omega
        have HFin := Lib.hid (show ∀ w4 (hb : Below ((w.alloc (.cells #[.int .i64 o.kind, .bool o.exec, .int .i64 o.acc, .int .i64 o.n, .string o.name, .int .i64 o.ref, .int .i64 o.frm, .int .i64 o.len] 41)).alloc (.cells #[.int .i64 x.kind, .bool x.exec, .int .i64 x.acc, .int .i64 x.n, .string x.name, .int .i64 x.ref, .int .i64 x.frm, .int .i64 x.len] 41)).heap.size ((w.alloc (.cells #[.int .i64 o.kind, .bool o.exec, .int .i64 o.acc, .int .i64 o.n, .string o.name, .int .i64 o.ref, .int .i64 o.frm, .int .i64 o.len] 41)).alloc (.cells #[.int .i64 x.kind, .bool x.exec, .int .i64 x.acc, .int .i64 x.n, .string x.name, .int .i64 x.ref, .int .i64 x.frm, .int .i64 x.len] 41)) w4), ∃ B c, y.2.i = .slice (some ⟨B, 0, none⟩) y.1.items.length c ∧ Slot w4 B ((F + I) * 9) ∧ O B ∧ ∀ w5, Below w4.heap.size w4 w5 → Rep O (set8 w5 B ((F + I) * 9) x) s fr (putG G t (F + I) x) from fun w4 hb => by
          have hr4 := HR.out w4 hb
          obtain ⟨B, c, cur, e, hB⟩ := items_block (hr4.row t y hy) (by omega)
          exact ⟨B, c, e, items_slot (hr4.row t y hy) e hpl, (hr4.row t y hy).oi B (by rw [e]; rfl), fun w5 hb5 => rep_put (hr4.below hb5) hy e hpl x⟩)
        have HCell := Lib.hid (show ∀ w4 (hb : Below ((w.alloc (.cells #[.int .i64 o.kind, .bool o.exec, .int .i64 o.acc, .int .i64 o.n, .string o.name, .int .i64 o.ref, .int .i64 o.frm, .int .i64 o.len] 41)).alloc (.cells #[.int .i64 x.kind, .bool x.exec, .int .i64 x.acc, .int .i64 x.n, .string x.name, .int .i64 x.ref, .int .i64 x.frm, .int .i64 x.len] 41)).heap.size ((w.alloc (.cells #[.int .i64 o.kind, .bool o.exec, .int .i64 o.acc, .int .i64 o.n, .string o.name, .int .i64 o.ref, .int .i64 o.frm, .int .i64 o.len] 41)).alloc (.cells #[.int .i64 x.kind, .bool x.exec, .int .i64 x.acc, .int .i64 x.n, .string x.name, .int .i64 x.ref, .int .i64 x.frm, .int .i64 x.len] 41)) w4), w4.cell? ⟨blkOf tv, t * 7 + 3, none⟩ = some y.2.i from fun w4 hb => by
          rcases (HV.out w4 hb).row with ⟨_, e⟩ | ⟨g, cap, e, _, hc⟩
          · rw [e] at hy; simp at hy
          · rw [e]; exact hc t 3 y hy (by omega))
        have HFill := Lib.hid (fun w4 (hb : Below ((w.alloc (.cells #[.int .i64 o.kind, .bool o.exec, .int .i64 o.acc, .int .i64 o.n, .string o.name, .int .i64 o.ref, .int .i64 o.frm, .int .i64 o.len] 41)).alloc (.cells #[.int .i64 x.kind, .bool x.exec, .int .i64 x.acc, .int .i64 x.n, .string x.name, .int .i64 x.ref, .int .i64 x.frm, .int .i64 x.len] 41)).heap.size ((w.alloc (.cells #[.int .i64 o.kind, .bool o.exec, .int .i64 o.acc, .int .i64 o.n, .string o.name, .int .i64 o.ref, .int .i64 o.frm, .int .i64 o.len] 41)).alloc (.cells #[.int .i64 x.kind, .bool x.exec, .int .i64 x.acc, .int .i64 x.n, .string x.name, .int .i64 x.ref, .int .i64 x.frm, .int .i64 x.len] 41)) w4) (B : Nat) (hs : Slot w4 B ((F + I) * 9)) (q : Nat) (chs : Array Value) => fill_at (tp := .pointer (some ⟨blkOf tv, t * 7, none⟩)) (w := w4.drewN q) ((HR.out w4 hb).below (below_draw (Below.refl _ _) q)) (hs.below (below_draw (Below.refl _ _) q)) x chs)
        unfold Ob.val at HFill
        clear hpe ht h h2 hv HR HV hvx hy hyk hl hL hF b1 b2 b3 hyl hyL hlb hil hLb
        go_enter Tryz.func121, Tryz.ntmps121
        go_wp2_with fail
        refine HT.out.mono ?_; rintro e w3 ⟨rfl, hb⟩
        obtain ⟨x0, x1, x2, x3, x4, x5, x6, x7⟩ := cellsOb (HBX.out w3 hb).2
        have HVx3 := Lib.hid (HVx.out w3 hb)
        have HB3 := Lib.hid hb
        clear hb HVx
        go_wp2_with fail
        refine HVx3.out.mono ?_; rintro e w4 ⟨rfl, hb4⟩
        have hbb := bthen HB3.out hb4
        have HB := Lib.hid (bthen (below2 w _ _) hbb)
        obtain ⟨_, _, _, _, _, _, o6, o7⟩ := cellsOb (HBX.out w4 hbb).1
        clear x0 x1 x2 x3 x4 x5 x6 x7
        obtain ⟨x0, x1, x2, x3, x4, x5, x6, x7⟩ := cellsOb (HBX.out w4 hbb).2
        rw [HLen.out] at o7
        rw [HFrm.out] at o6
        have hcell := HCell.out w4 hbb
        obtain ⟨B, c, e, hslot, hOB, hfin⟩ := HFin.out w4 hbb
        have HF := Lib.hid (HFill.out w4 hbb B hslot)
        have HFI := Lib.hid hfin
        rw [e] at hcell
        clear hb4 hbb HVx3 HBX HFin HCell HFill hslot hfin e
        go_wp2_with fail
        refine (HLi.out _).mono ?_; rintro e w5 ⟨rfl, rfl⟩
        go_wp2_with fail
        go_region_with (first | (go_at_call 48; refine (HF.out _ _).mono ?_; rintro e w6 ⟨rfl, w7, hb7, rfl⟩))
        all_goals go_wp2_with fail
        all_goals go_ret
        all_goals exact HP.out _ _ rfl (.inr ⟨trivial, t, rfl, HFI.out _ (bthen (below_draw (Below.refl _ _) 1) hb7), frm_set8 (bthen HB.out (bthen (below_draw (Below.refl _ _) 1) hb7)) hOB⟩)
end Go.Proofs.YtmcopfcmnbhaaaaGreat
