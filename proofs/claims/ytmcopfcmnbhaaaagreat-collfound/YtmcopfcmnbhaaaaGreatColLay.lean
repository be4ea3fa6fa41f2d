/-
  Items that come into an array: coll's lay, putInterval, by contracts.
-/
import Derived.Test.YtmcopfcmnbhaaaaGreatColList
import Derived.Test.YtmcopfcmnbhaaaaGreatStoPut3
import Derived.Test.YtmcopfcmnbhaaaaGreatStoItems2
namespace Go.Proofs.YtmcopfcmnbhaaaaGreat
open Go.RowKit
open St
open Stk
namespace Col
/-- items put one behind the other, from place p on -/
def putsG (G : List (Th × Lay)) (t : Nat) : Nat → List Ob → List (Th × Lay)
  | _, [] => G
  | p, x :: l => putsG (putG G t p x) t (p + 1) l
theorem putsG_snoc (t : Nat) (x : Ob) : ∀ (l : List Ob) (G : List (Th × Lay)) (p : Nat), putsG G t p (l ++ [x]) = putG (putsG G t p l) t (p + l.length) x
  | [], G, p => by simp [putsG]
  | y :: l, G, p => by rw [List.cons_append, putsG, putsG, putsG_snoc t x l, List.length_cons, show p + 1 + l.length = p + (l.length + 1) by omega]
theorem putsG_take {G : List (Th × Lay)} {t p k : Nat} {l : List Ob} {x : Ob} (hx : l[k]? = some x) : putsG G t p (l.take (k + 1)) = putG (putsG G t p (l.take k)) t (p + k) x := by
  obtain ⟨hk, hx2⟩ := List.getElem?_eq_some_iff.1 hx
  rw [List.take_add_one, hx, Option.toList_some, putsG_snoc, List.length_take, show min k l.length = k by omega]
theorem tld_putG (G : List (Th × Lay)) (t p : Nat) (x o : Ob) (k : Int) : tld (putG G t p x) o k = tld G o k := by
  unfold tld putG
  rw [List.getElem?_modify]
  cases G[o.ref.toNat - 1]? with
  | none => rfl
  | some y =>
    by_cases h : t = o.ref.toNat - 1
    · have e : ((fun a => if t = o.ref.toNat - 1 then putF p x a else a) <$> some y) = some (putF p x y) := by simp [h]
      have e2 : (putF p x y).1.length = y.1.length := by simp [putF, Th.length]
      rw [e]
      simp only [e2]
      rfl
    · have e : ((fun a => if t = o.ref.toNat - 1 then putF p x a else a) <$> some y) = some y := by simp [h]
      rw [e]
theorem tld_putsG (t : Nat) (o : Ob) (k : Int) : ∀ (l : List Ob) (G : List (Th × Lay)) (p : Nat), tld (putsG G t p l) o k = tld G o k
  | [], _, _ => rfl
  | x :: l, G, p => by rw [putsG, tld_putsG t o k l, tld_putG]
theorem valid_putsG (t p : Nat) (l : List Ob) (G : List (Th × Lay)) (o : Ob) : valid (putsG G t p l) o = valid G o := by
  unfold valid
  rw [tld_putsG]
theorem BR.add {O : Nat → Prop} {w0 w : World} {l : List (Nat × Obj)} {s : Nat} {fr : Int} {G : List (Th × Lay)} (h : BR O w0 l s fr G w) {B : Nat} {o : Obj} (hB : w.heap[B]? = some o) (hO : ¬ O B) : BR O w0 ((B, o) :: l) s fr G w := by
  refine ⟨⟨h.1.1, fun p hp => ?_⟩, h.2⟩
  rcases List.mem_cons.1 hp with e | e
  · rw [e]; exact ⟨hO, hB⟩
  · exact h.1.2 p e
/-- a result's box is written -/
theorem BR.res {O : Nat → Prop} {w0 w w' : World} {l : List (Nat × Obj)} {s b : Nat} {fr : Int} {G : List (Th × Lay)} {t : TypeId} {v0 v1 v2 v3 v4 v5 v6 v7 : Value} (h : BR O w0 l s fr G w) (hp : Put8 w b t v0 v1 v2 v3 v4 v5 v6 v7 w') (hb : w0.heap.size ≤ b) (hO : ¬ O b) : Rep O w' s fr G ∧ Frm O w0 w' := by
  refine ⟨h.2.same (by rw [hp.size]; exact Nat.le_refl _) (fun k _ hk => hp.far k (fun e => hO (e ▸ hk))), ?_⟩
  have hF := h.1.1
  exact ⟨hp.os.trans hF.os, hp.tape.trans hF.tape, hp.output.trans hF.output, by rw [hp.size]; exact hF.size, fun k hk hk2 => (hp.far k (by omega)).trans (hF.block k hk hk2)⟩
/-- a box is written -/
theorem BR.write8 {O : Nat → Prop} {w0 w w' : World} {l : List (Nat × Obj)} {s b : Nat} {fr : Int} {G : List (Th × Lay)} {t : TypeId} {ob : Obj} {v0 v1 v2 v3 v4 v5 v6 v7 : Value} (h : BR O w0 ((b, ob) :: l) s fr G w) (hp : Put8 w b t v0 v1 v2 v3 v4 v5 v6 v7 w') (hb : w0.heap.size ≤ b) (hl : ∀ p ∈ l, p.1 ≠ b) : BR O w0 ((b, .cells #[v0, v1, v2, v3, v4, v5, v6, v7] t (0, 0)) :: l) s fr G w' := by
  have hO : ¬ O b := (h.1.2 (b, ob) (by simp)).1
  obtain ⟨hR, hF⟩ := h.res hp hb hO
  refine ⟨⟨hF, fun p hp2 => ?_⟩, hR⟩
  rcases List.mem_cons.1 hp2 with e | e
  · rw [e]; exact ⟨hO, hp.blk⟩
  · have := h.1.2 p (List.mem_cons_of_mem _ e)
    exact ⟨this.1, (hp.far _ (hl p e)).trans this.2⟩
theorem BR.drews {O : Nat → Prop} {w0 w : World} {l : List (Nat × Obj)} {s : Nat} {fr : Int} {G : List (Th × Lay)} (h : BR O w0 l s fr G w) (q : Nat) : BR O w0 l s fr G (w.drewN q) := h.below ⟨rfl, rfl, rfl, Nat.le_refl _, fun _ _ => rfl⟩
theorem obj_at {w wr : World} {B n c : Nat} {l : List Ob} {o : Obj} (h : w.ownsRow 0 41 8 (.slice (some ⟨B, 0, none⟩) n c) n (l.flatMap Ob.cells)) (hn : l.length = n) (hw : w.heap[B]? = some o) (hr : wr.heap[B]? = some o) {k : Nat} {y : Ob} (hy : l[k]? = some y) :
    wr.cell? ⟨B, k * 8, none⟩ = some (.int .i64 y.kind) ∧ wr.cell? ⟨B, k * 8 + 1, none⟩ = some (.bool y.exec) ∧ wr.cell? ⟨B, k * 8 + 2, none⟩ = some (.int .i64 y.acc) ∧ wr.cell? ⟨B, k * 8 + 3, none⟩ = some (.int .i64 y.n) ∧
    wr.cell? ⟨B, k * 8 + 4, none⟩ = some (.string y.name) ∧ wr.cell? ⟨B, k * 8 + 5, none⟩ = some (.int .i64 y.ref) ∧ wr.cell? ⟨B, k * 8 + 6, none⟩ = some (.int .i64 y.frm) ∧ wr.cell? ⟨B, k * 8 + 7, none⟩ = some (.int .i64 y.len) := by
  have := ob_cells (w := wr) (b := B) (o := 0) (l := l) (i := k) (x := y) (fun j z hz => by
    have hj : j < l.length * 8 := by have := (List.getElem?_eq_some_iff.1 hz).1; rwa [obs_len] at this
    rw [Nat.zero_add, World.cell?_of_block (w := w) (hr.trans hw.symm), h.cellAt j (by rw [← hn]; exact hj)]; exact hz) hy
  simpa only [Nat.zero_add] using this
theorem part_fit {O : Nat → Prop} {w : World} {s : Nat} {fr f n : Int} {G : List (Th × Lay)} {o : Ob} {t : Nat} (_h : Rep O w s fr G) (ho : tld G o 7 = some t) (hf : liesB f n o.len = true) : tld G (prt o f n) 7 = some t ∧ 0 ≤ o.frm + f ∧ 0 ≤ n := by
  obtain ⟨hk, hr, y, hy, hyk, hl⟩ := tld_some ho
  rw [liesB_iff] at hf hl
  refine ⟨?_, by omega, by omega⟩
  have hk2 : (prt o f n).kind = 7 := hk
  have hr2 : (prt o f n).ref = (t + 1 : Nat) := hr
  have e1 : (prt o f n).ref.toNat - 1 = t := by omega
  unfold tld
  rw [if_pos ⟨hk2, by omega⟩]
  simp only [e1, hy]
  rw [if_pos ⟨hyk, by rw [liesB_iff]; simp only [prt]; omega⟩]
theorem items_len {O : Nat → Prop} {w : World} {s : Nat} {fr : Int} {G : List (Th × Lay)} {o : Ob} {t : Nat} (h : Rep O w s fr G) (ho : tld G o 7 = some t) : ((itemsR G o).length : Int) = o.len ∧ (itemsR G o).length ≤ 65535 := by
  obtain ⟨hk, hr, y, hy, hyk, hl⟩ := tld_some ho
  have hn := (h.row _ _ hy).ni
  rw [liesB_iff, items_len7 hyk] at hl
  unfold itemsR
  rw [ho]
  simp only [hy, List.length_take, List.length_drop]
  omega
set_option maxRecDepth 100000 in
set_option maxHeartbeats 2000000 in
theorem lay_ok {O : Nat → Prop} {w : World} {s : Nat} {fr : Int} {G : List (Th × Lay)} (h : Rep O w s fr G) (x o : Ob) (f : Int) (t u : Nat) (ho : tld G o 7 = some t) (hx : tld G x 7 = some u) (hf : liesB f x.len o.len = true) (hv : ∀ y ∈ itemsR G x, valid G y = true) :
    Calls Tryz.prog 111 #[cv s, x.val, o.val, .int .i64 f] w fun e w' => e = .returned (prt o f x.len).val ∧ Rep O w' s fr (putsG G t (o.frm + f).toNat (itemsR G x)) ∧ Frm O w w' := by
  obtain ⟨hpt, hp0, hxl0⟩ := part_fit h ho hf
  obtain ⟨hil, him⟩ := items_len h hx
  have hkx := (tld_some hx).1
  have hko := (tld_some ho).1
  have HB := Lib.hid (br4 h (cvC s) (obC x) (obC o) (.cells zeroOb 41))
  have HP := Lib.hid (fun w2 (h2 : Rep O w2 s fr G) => part_at h2 o f x.len)
  rw [show partR G o f x.len = (prt o f x.len, 0) by unfold partR; rw [if_neg (by rw [ho]; simp), if_pos hf]] at HP
  have HI := Lib.hid (fun w2 (h2 : Rep O w2 s fr G) => items_at h2 x)
  have HSO := Lib.hid (fun w => sureO_ok (prt o f x.len) w)
  have HSL := Lib.hid sureL_ok
  unfold cvC obC zeroOb at HB
  unfold ObE at HP
  simp only [prt, Ob.val] at HP HSO
  unfold Ob.val at HI
  unfold cv Ob.val prt
  have HKo := Lib.hid hko
  have HOL := Lib.hid h.olt
  rw [hkx, hko]
  rw [hkx] at HI HB
  rw [hko] at HP HSO HB
  clear h hkx hko
  go_enter Tryz.func111, Tryz.ntmps111
  go_wp2_with fail
  refine (HP.out _ HB.out.2).mono ?_; rintro e w2 ⟨rfl, hb2⟩
  have HK2 := Lib.hid (HB.out.below hb2)
  clear HB hb2 HP
  go_wp2_with fail
  refine (HSO.out _).mono ?_; rintro e w3 ⟨rfl, hb3⟩
  have hK3 := HK2.out.below hb3
  have hK4 := hK3.alloc (obC (prt o f x.len))
  have hlt3 : w.heap.size + 1 < w3.heap.size := (Array.getElem?_eq_some_iff.1 hK3.1.b2).1
  unfold obC prt at hK4
  rw [HKo.out] at hK4
  obtain ⟨x0, x1, x2, x3, x4, x5, x6, x7⟩ := cellsOb hK4.1.b3
  have c0 := cellCv hK4.1.b4
  have HK4 := Lib.hid hK4
  have hIt := HI.out _ hK4.2
  unfold ItemsP at hIt
  have HIt := Lib.hid hIt
  have hOs : ∀ k, O k → k < w3.heap.size := fun k hk => hK3.2.olt k hk
  have HOs := Lib.hid hOs
  clear hb3 hK3 hK4 HK2 HSO hIt HI hOs
  go_wp2_with fail
  refine HIt.out.mono ?_; rintro e w4 ⟨hb4, hor⟩
  rcases hor with ⟨hno, _⟩ | ⟨B, hBl, _, rfl, hown⟩
  · rw [hx] at hno; cases hno
  obtain ⟨cur, hcur⟩ := own_at hown
  have hOb : ¬ O (w.heap.size + 1 + 1 + 1) := fun e => by have := HOL.out _ e; omega
  have hK5 := (HK4.out.below hb4).add hcur (fun e => by have := HOs.out B e; simp at hBl; omega)
  obtain ⟨bl, hK5, hFB⟩ : ∃ bl, BR O w bl s fr G w4 ∧ ∀ wr G', BR O w bl s fr G' wr → wr.heap[B]? = some (.cells cur 41 (0, 0)) ∧ wr.heap[w3.heap.size]? = some (.cells #[.int .i64 7, .bool o.exec, .int .i64 o.acc, .int .i64 o.n, .string o.name, .int .i64 o.ref, .int .i64 (o.frm + f), .int .i64 x.len] 41) ∧
    wr.heap[w.heap.size + 1 + 1 + 1]? = some (.cells #[.int .i64 0, .bool false, .int .i64 0, .int .i64 0, .string ⟨#[]⟩, .int .i64 0, .int .i64 0, .int .i64 0] 41) ∧ wr.heap[w.heap.size]? = some (.cells #[.pointer (some ⟨s, 0, none⟩)] 103) := ⟨_, hK5, fun wr G' h => ⟨h.1.b0, h.1.b1, h.1.b2, h.1.b5⟩⟩
  have HFB := Lib.hid hFB
  have HK5 := Lib.hid hK5
  have HOwn := Lib.hid (And.intro hown hcur)
  have HV := Lib.hid hv
  have HIL := Lib.hid (And.intro hil him)
  have HPT := Lib.hid hpt
  have HP0 := Lib.hid (And.intro hp0 hOb)
  have HPO := Lib.hid pass_ok
  generalize hL : itemsR G x = L at *
  have HL := Lib.hid hL
  clear hL
  clear hb4 hBl hown hcur hK5 hFB HK4 HIt hv hil hpt hp0 hf ho hx x0 x1 x2 x3 x4 x5 x6 x7 c0 hxl0 hOb
  go_wp2_with fail
  refine (HSL.out _ _).mono ?_; rintro e w5 ⟨rfl, rfl⟩
  have hsz5 : w.heap.size + 1 + 1 + 1 < w5.heap.size := (Array.getElem?_eq_some_iff.1 (HFB.out _ _ HK5.out).2.2.1).1
  go_wp2_with fail
  go_loopw [46] (fun v wr => ∃ k : Nat, v = .int .i64 k ∧ k ≤ L.length ∧ BR O w bl s fr (putsG G t (o.frm + f).toNat (L.take k)) wr) (fun v _ => L.length - (intOf v).toNat)
  case atStart => exact ⟨0, rfl, Nat.zero_le _, HK5.out⟩
  case round =>
    obtain ⟨k, rfl, hk, hbr⟩ := hrel
    obtain ⟨hrB, hrP, hrZ, hrC⟩ := HFB.out _ _ hbr
    have HBr := Lib.hid hbr
    have lt1 := (Array.getElem?_eq_some_iff.1 hrB).1
    have lt2 := (Array.getElem?_eq_some_iff.1 hrP).1
    have lt3 := (Array.getElem?_eq_some_iff.1 hrC).1
    have lt4 := (Array.getElem?_eq_some_iff.1 hrZ).1
    obtain ⟨p0, p1, p2, p3, p4, p5, p6, p7⟩ := cellsOb hrP
    have c0 := cellCv hrC
    by_cases hlt : k < L.length
    · obtain ⟨y, hy⟩ : ∃ y, L[k]? = some y := ⟨_, List.getElem?_eq_getElem hlt⟩
      obtain ⟨x0, x1, x2, x3, x4, x5, x6, x7⟩ := obj_at HOwn.out.1 rfl HOwn.out.2 hrB hy
      have hpe : putE (putsG G t (o.frm + f).toNat (L.take k)) (prt o f x.len) k y = 0 := by
        unfold putE
        rw [tld_putsG, HPT.out, if_neg (by simp), valid_putsG, HV.out y (List.mem_of_getElem? hy), if_pos rfl, if_pos]
        rw [liesB_iff]
        simp only [prt]
        have := HIL.out.1
        omega
      have hput := put_at (hbr.2.below (below1 wr (obC y))) (prt o f x.len) k y
      unfold PutP at hput
      rw [hpe] at hput
      unfold obC Ob.val prt at hput
      rw [HKo.out] at hput
      have HPut := Lib.hid hput
      have HPE := Lib.hid hpe
      clear hrB hrP hrZ hrC hbr hput hpe
      go_wp2_with fail
      refine HPut.out.mono ?_; rintro e w6 ⟨rfl, hor⟩
      have hgood : BR O w bl s fr (putsG G t (o.frm + f).toNat (L.take (k + 1))) w6 := by
        rcases hor with ⟨h0, _⟩ | ⟨_, t', ht', hr7, hF7⟩
        · exact absurd rfl h0
        · have ht2 : tld (putsG G t (o.frm + f).toNat (L.take k)) (prt o f x.len) 7 = some t := by rw [tld_putsG]; exact HPT.out
          unfold prt at ht2
          rw [HKo.out] at ht2
          rw [ht2] at ht'
          cases ht'
          have hp := HP0.out.1
          rw [show (o.frm + f + (k : Int)).toNat = (o.frm + f).toNat + k by omega, ← putsG_take hy] at hr7
          exact (HBr.out.below (below1 wr _)).put hF7 hr7
      have HG := Lib.hid hgood
      clear hor hgood p0 p1 p2 p3 p4 p5 p6 p7 x0 x1 x2 x3 x4 x5 x6 x7 c0
      go_wp2_with fail
      refine (HPO.out _).mono ?_; rintro e w7 ⟨rfl, rfl⟩
      go_wp2_with fail
      go_roundw
      case rel => exact ⟨k + 1, by go_num, by omega, HG.out⟩
      case measure => simp [intOf]; omega
    · have hkl : k = L.length := by omega
      rw [hkl, List.take_length] at hbr
      have HBe := Lib.hid hbr
      have HZ := Lib.hid hrZ
      obtain ⟨z0, z1, z2, z3, z4, z5, z6, z7⟩ := cellsOb hrZ
      have zf := blk_free hrZ
      clear hbr hrB hrP hrZ hrC
      go_wp2_with fail
      have hp := put8 HZ.out (.int .i64 7) (.bool o.exec) (.int .i64 o.acc) (.int .i64 o.n) (.string o.name) (.int .i64 o.ref) (.int .i64 (o.frm + f)) (.int .i64 x.len)
      obtain ⟨hR, hF⟩ := HBe.out.res hp (by omega) HP0.out.2
      exact bodyPost_ret (results_ob1 Tryz.results111 _ _ (w.heap.size + 1 + 1 + 1) rfl hp.blk) rfl ⟨rfl, by rw [HL.out]; exact hR, hF⟩
set_option maxRecDepth 100000 in
set_option maxHeartbeats 1000000 in
theorem lay_no {O : Nat → Prop} {w : World} {s : Nat} {fr : Int} {G : List (Th × Lay)} (h : Rep O w s fr G) (x o : Ob) (f : Int) (t : Nat) (ho : tld G o 7 = some t) (hf : liesB f x.len o.len = false) :
    Calls Tryz.prog 111 #[cv s, x.val, o.val, .int .i64 f] w fun e w' => e = gu 11 ∧ Below w.heap.size w w' := by
  have hb4 : Below w.heap.size w ((((w.alloc (cvC s)).alloc (obC x)).alloc (obC o)).alloc (.cells zeroOb 41)) := (below2 w (cvC s) (obC x)).trans ((below2 ((w.alloc (cvC s)).alloc (obC x)) (obC o) (.cells zeroOb 41)).mono (by simp; omega))
  have HP := Lib.hid (part_at (h.below hb4) o f x.len)
  rw [show partR G o f x.len = (nul, 11) by unfold partR; rw [if_neg (by rw [ho]; simp), if_neg (by rw [hf]; simp)]] at HP
  have HSO := Lib.hid (fun w => sureO_no nul (e := 11) (by decide) w)
  have HB := Lib.hid hb4
  unfold cvC obC zeroOb at HB HP
  unfold ObE at HP
  simp only [nul, Ob.val] at HP HSO
  unfold gu at HSO ⊢
  unfold cv Ob.val
  clear h hb4 ho hf
  go_enter Tryz.func111, Tryz.ntmps111
  go_wp2_with fail
  refine HP.out.mono ?_; rintro e w2 ⟨rfl, hb2⟩
  have HB2 := Lib.hid (bthen HB.out hb2)
  clear hb2
  go_wp2_with fail
  refine (HSO.out _).mono ?_; rintro e w3 ⟨rfl, hb3⟩
  have HB3 := Lib.hid (bthen HB2.out hb3)
  clear hb3
  go_wp2_with fail
  exact ⟨rfl, rfl, HB3.out⟩
end Col
end Go.Proofs.YtmcopfcmnbhaaaaGreat
