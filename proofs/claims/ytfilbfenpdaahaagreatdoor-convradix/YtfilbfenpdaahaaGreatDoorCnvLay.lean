/-
  What conv's worker asks of an operand: its access, whether it may be read and written, whether it is held; by contracts.
conv.Do, by the contract of what the worker does.
Access is taken away: bar, of a string, an array and a dictionary; what may be done is asked: check; by contracts.
Access is taken away from a dictionary: bar, by a contract.
A text is laid into a string: lay, asText; by contracts.
-/
import Derived.Test.YtfilbfenpdaahaaGreatDoorStoWrite
import Derived.Test.YtfilbfenpdaahaaGreatDoorBxBox
import Derived.Deep.RegionHeld3
namespace Go.Proofs.YtfilbfenpdaahaaGreatDoor
open Go.RowKit
open St
open Stk
open Col
namespace Cv
def cw (s : Nat) : Value := .agg #[.pointer (some ⟨s, 0, none⟩)]
def cwC (s : Nat) : Obj := .cells #[.pointer (some ⟨s, 0, none⟩)] 73
/-- an operand's access -/
def acs (G : List (Th × Lay)) (o : Ob) : Int := if o.kind = 8 then accV (dicT G o) else o.acc
theorem accessOf_at {O : Nat → Prop} {w : World} {s : Nat} {fr : Int} {G : List (Th × Lay)} (h : Rep O w s fr G) (o : Ob) :
    Calls Tryz.prog 61 #[cw s, o.val] w fun e w' => e = .returned (.int .i64 (acs G o)) ∧ Below w.heap.size w w' := by
  have hb := below2 w (cwC s) (obC o)
  have HA := Lib.hid (access_at (h.below hb) o)
  have HB := Lib.hid hb
  unfold cwC obC at HB HA
  unfold Ob.val at HA
  unfold cw Ob.val
  clear h hb
  by_cases h8 : o.kind = 8
  · have e : acs G o = accV (dicT G o) := by unfold acs; rw [if_pos h8]
    rw [e]
    rw [h8] at HA HB ⊢
    clear h8 e
    go_enter Tryz.func61, Tryz.ntmps61
    go_wp2_with fail
    refine HA.out.mono ?_; rintro e w2 ⟨rfl, hb2⟩
    have HB2 := Lib.hid (bthen HB.out hb2)
    clear hb2
    go_wp2_with fail
    go_ret
    exact ⟨rfl, HB2.out⟩
  · have e : acs G o = o.acc := by unfold acs; rw [if_neg h8]
    have e8 : (o.kind == 8) = false := by simp [h8]
    rw [e]
    clear h8 e
    go_enter Tryz.func61, Tryz.ntmps61
    go_wp2_with fail
    go_ret
    exact ⟨rfl, HB.out⟩
theorem mayRead_at {O : Nat → Prop} {w : World} {s : Nat} {fr : Int} {G : List (Th × Lay)} (h : Rep O w s fr G) (o : Ob) :
    Calls Tryz.prog 43 #[cw s, o.val] w fun e w' => e = .returned (.bool (acs G o == 0 || acs G o == 1)) ∧ Below w.heap.size w w' := by
  have hb := below2 w (cwC s) (obC o)
  have HA := Lib.hid (accessOf_at (h.below hb) o)
  have HB := Lib.hid hb
  unfold cwC obC at HB HA
  unfold cw Ob.val at HA
  unfold cw Ob.val
  clear h hb
  generalize acs G o = a at *
  by_cases h0 : a = 0
  · subst h0
    go_enter Tryz.func43, Tryz.ntmps43
    go_wp2_with fail
    refine HA.out.mono ?_; rintro e w2 ⟨rfl, hb2⟩
    have HB2 := Lib.hid (bthen HB.out hb2)
    clear hb2
    go_wp2_with fail
    go_ret
    exact ⟨rfl, HB2.out⟩
  · have e0 : (a == 0) = false := by simp [h0]
    rw [e0, Bool.false_or]
    clear h0
    go_enter Tryz.func43, Tryz.ntmps43
    go_wp2_with fail
    refine HA.out.mono ?_; rintro e w2 ⟨rfl, hb2⟩
    have HB2 := Lib.hid (bthen HB.out hb2)
    clear hb2
    go_wp2_with fail
    go_ret
    exact ⟨rfl, HB2.out⟩
theorem mayWrite_at {O : Nat → Prop} {w : World} {s : Nat} {fr : Int} {G : List (Th × Lay)} (h : Rep O w s fr G) (o : Ob) :
    Calls Tryz.prog 44 #[cw s, o.val] w fun e w' => e = .returned (.bool (acs G o == 0)) ∧ Below w.heap.size w w' := by
  have hb := below2 w (cwC s) (obC o)
  have HA := Lib.hid (accessOf_at (h.below hb) o)
  have HB := Lib.hid hb
  unfold cwC obC at HB HA
  unfold cw Ob.val at HA
  unfold cw Ob.val
  clear h hb
  generalize acs G o = a at *
  go_enter Tryz.func44, Tryz.ntmps44
  go_wp2_with fail
  refine HA.out.mono ?_; rintro e w2 ⟨rfl, hb2⟩
  have HB2 := Lib.hid (bthen HB.out hb2)
  clear hb2
  go_wp2_with fail
  go_ret
  exact ⟨rfl, HB2.out⟩
def held (o : Ob) : Bool := o.kind == 7 || o.kind == 6 || o.kind == 8
theorem isHeld_at (o : Ob) (w : World) : Calls Tryz.prog 60 #[o.val] w fun e w' => e = .returned (.bool (held o)) ∧ Below w.heap.size w w' := by
  have HB := Lib.hid (below1 w (obC o))
  unfold obC at HB
  unfold held Ob.val
  by_cases h7 : o.kind = 7
  · rw [h7] at HB ⊢
    clear h7
    go_enter Tryz.func60, Tryz.ntmps60
    go_wp2_with fail
    go_ret
    exact ⟨rfl, HB.out⟩
  have e7 : (o.kind == 7) = false := by simp [h7]
  rw [e7, Bool.false_or]
  by_cases h6 : o.kind = 6
  · rw [h6] at HB e7 ⊢
    clear h7 h6
    go_enter Tryz.func60, Tryz.ntmps60
    go_wp2_with fail
    go_ret
    exact ⟨rfl, HB.out⟩
  have e6 : (o.kind == 6) = false := by simp [h6]
  rw [e6, Bool.false_or]
  clear h7 h6
  go_enter Tryz.func60, Tryz.ntmps60
  go_wp2_with fail
  go_ret
  exact ⟨rfl, HB.out⟩
def boolC (b : Bool) : Ob := ⟨3, false, 0, if b then 1 else 0, ⟨#[]⟩, 0, 0, 0⟩
theorem truth_at (b : Bool) (w : World) : Calls Tryz.prog 35 #[.bool b] w fun e w' => e = .returned (boolC b).val ∧ Below w.heap.size w w' := by
  have HB := Lib.hid (below1 w (obC (boolC b)))
  have HZ := Lib.hid (below1 w (obC nul))
  unfold obC boolC at HB
  unfold boolC Ob.val
  cases b <;> simp only [if_true, if_false, Bool.false_eq_true] at HB ⊢
  all_goals
    go_enter Tryz.func35, Tryz.ntmps35
    go_wp2_with fail
    exact bodyPost_ret (results_ob1 Tryz.results35 _ _ w.heap.size rfl (heap_alloc_new w _)) rfl ⟨rfl, HB.out⟩
end Cv
end Go.Proofs.YtfilbfenpdaahaaGreatDoor
namespace Go.Proofs.YtfilbfenpdaahaaGreatDoor
open Go.RowKit
open St
open Stk
open Col
namespace Cv
/-- what Do leaves -/
def DoP (O : Nat → Prop) (Q : Ob → Int → World → Prop) (w : World) (e : Ending) (w' : World) : Prop :=
  Frm O w w' ∧ ∃ o er, Q o er w' ∧ ((er ≠ 0 ∧ e = .returned (.tuple #[.slice none 0 0, .int .i64 er])) ∨ (er = 0 ∧ ∃ p', e = .returned (.tuple #[.slice p' 1 1, .int .i64 0]) ∧ Hnd w.heap.size p' [o] w'))
theorem frm_below {O : Nat → Prop} {w w2 w3 : World} (h : Frm O w w2) (hb : Below w2.heap.size w2 w3) : Frm O w w3 :=
  ⟨hb.os.trans h.os, hb.tape.trans h.tape, hb.output.trans h.output, Nat.le_trans h.size hb.size, fun k hk hO => (hb.block k (Nat.lt_of_lt_of_le hk h.size)).trans (h.block k hk hO)⟩
theorem below_frm {O : Nat → Prop} {w w1 w2 : World} (hb : Below w.heap.size w w1) (h : Frm O w1 w2) : Frm O w w2 :=
  ⟨h.os.trans hb.os, h.tape.trans hb.tape, h.output.trans hb.output, Nat.le_trans hb.size h.size, fun k hk hO => (h.block k (Nat.lt_of_lt_of_le hk hb.size) hO).trans (hb.block k hk)⟩
set_option maxRecDepth 100000 in
set_option maxHeartbeats 1000000 in
theorem do_at {O : Nat → Prop} {w : World} {s c : Nat} {fr : Int} {G : List (Th × Lay)} {p : Option Addr} {l : List Ob} {nm : ByteArray} (hr : Rep O w s fr G) (hl : SrcO w p l) (hl0 : l ≠ []) (hn : l.length ≤ 3) (hv : ∀ o ∈ l, valid G o = true)
    (hK : ∀ w, Calls Tryz.prog 17 #[.string nm] w fun e w' => e = .returned (.tuple #[.int .i64 l.length, .bool true]) ∧ w' = w) (Q : Ob → Int → World → Prop)
    (hD : ∀ w2, Below w.heap.size w w2 → Calls Tryz.prog 19 #[cw s, .string nm, .slice p l.length c] w2 fun e w' => ∃ o er, e = .returned (.tuple #[Ob.val o, .int .i64 er]) ∧ Frm O w2 w' ∧ Q o er w')
    (hQ : ∀ o er w1 w2, Q o er w1 → Below w1.heap.size w1 w2 → Q o er w2) :
    Calls Tryz.prog 8 #[.pointer (some ⟨s, 0, none⟩), .string nm, .slice p l.length c] w (DoP O Q w) := by
  obtain ⟨b, o, rfl, hblt, hc⟩ := Col.SrcO.plain hl hl0
  have HC := Lib.hid hc
  have HV := Lib.hid (fun (i : Nat) (x : Ob) (_ : l[i]? = some x) (w2 : World) (hb : Below w.heap.size w w2) => valid_at (w := w2) (hr.below hb) x)
  have HT := Lib.hid (fun (i : Nat) (x : Ob) (hx : l[i]? = some x) => hv x (List.mem_of_getElem? hx))
  have HK := Lib.hid hK
  have HD := Lib.hid hD
  have HQ := Lib.hid hQ
  have HO := Lib.hid hr.olt
  have H1 := Lib.hid (below1 w (cwC s))
  have hcw : (w.alloc (cwC s)).heap[w.heap.size]? = some (cwC s) := heap_alloc_new w _
  have HCw := Lib.hid hcw
  have H1l : Hid (w.heap.size < (w.alloc (cwC s)).heap.size) := Lib.hid (by simp)
  unfold cwC at H1 HCw H1l
  unfold cw at HD
  clear hl hc hK hD hQ hr hv hl0 hcw
  go_enter Tryz.func8, Tryz.ntmps8
  go_wp2_with fail
  refine (HK.out _).mono ?_; rintro e w1 ⟨rfl, rfl⟩
  go_wp2_with fail
  generalize hW : w1.alloc (.cells #[.pointer (some ⟨s, 0, none⟩)] 73) = W at *
  go_loopw [32] (fun v wr => ∃ k : Nat, v = .int .i64 k ∧ k ≤ l.length ∧ Below W.heap.size W wr) (fun v _ => l.length - (intOf v).toNat)
  case atStart => exact ⟨0, rfl, Nat.zero_le _, Below.refl _ _⟩
  case round =>
    obtain ⟨k, rfl, hk, hb⟩ := hrel
    have c0 : wr.cell? ⟨w1.heap.size, 0, none⟩ = some (.pointer (some ⟨s, 0, none⟩)) := (hb.cell (by exact H1l.out)).trans (cellCv HCw.out)
    have hbw := H1.out.trans (hb.mono H1.out.size)
    by_cases hlt : k < l.length
    · obtain ⟨x, hx⟩ : ∃ x, l[k]? = some x := ⟨_, List.getElem?_eq_getElem hlt⟩
      obtain ⟨x0, x1, x2, x3, x4, x5, x6, x7⟩ := ob_cells (fun j z hz => (hbw.cell (by exact hblt)).trans (HC.out j z hz)) hx
      have hB2 := bthen hb (below1 wr (obC x))
      have HX := Lib.hid (HV.out k x hx _ (H1.out.trans (hB2.mono H1.out.size)))
      rw [HT.out k x hx] at HX
      have HB2 := Lib.hid hB2
      unfold obC at HX HB2
      unfold Ob.val at HX
      have hW0 : w1.heap.size < wr.heap.size := Nat.lt_of_lt_of_le H1l.out hb.size
      clear hB2 hb hbw
      go_wp2_with fail
      refine HX.out.mono ?_; rintro e w2 ⟨rfl, hb2⟩
      have HB3 := Lib.hid (bthen HB2.out hb2)
      clear hb2
      go_wp2_with fail
      go_roundw
      case rel => exact ⟨k + 1, by go_num, by omega, HB3.out⟩
      case measure => simp [intOf]; omega
    · have hkl : k = l.length := by omega
      have HB2 := Lib.hid hbw
      have HDo := Lib.hid (HD.out wr hbw)
      clear hb hbw
      subst hkl
      go_wp2_with fail
      refine HDo.out.mono ?_; rintro e w2 ⟨ob, er, rfl, hF, hq⟩
      have HF := Lib.hid (below_frm HB2.out hF)
      have hq3 := HQ.out ob er w2 _ hq (below1 w2 (obC ob))
      have HF3 := Lib.hid (frm_below HF.out (below1 w2 (obC ob)))
      unfold obC at hq3 HF3
      have HQ3 := Lib.hid hq3
      clear hq hF hq3
      unfold Ob.val
      by_cases h0 : er = 0
      · subst h0
        go_wp2_with fail
        go_ret2
        have hb4 := below1 (w2.alloc (.cells #[.int .i64 ob.kind, .bool ob.exec, .int .i64 ob.acc, .int .i64 ob.n, .string ob.name, .int .i64 ob.ref, .int .i64 ob.frm, .int .i64 ob.len] 27)) (.cells #[.int .i64 ob.kind, .bool ob.exec, .int .i64 ob.acc, .int .i64 ob.n, .string ob.name, .int .i64 ob.ref, .int .i64 ob.frm, .int .i64 ob.len] 27)
        have hh := hnd_of (l := [ob]) (N := w1.heap.size) (w := w2.alloc (.cells #[.int .i64 ob.kind, .bool ob.exec, .int .i64 ob.acc, .int .i64 ob.n, .string ob.name, .int .i64 ob.ref, .int .i64 ob.frm, .int .i64 ob.len] 27)) (c := #[.int .i64 ob.kind, .bool ob.exec, .int .i64 ob.acc, .int .i64 ob.n, .string ob.name, .int .i64 ob.ref, .int .i64 ob.frm, .int .i64 ob.len]) (t := 27) HF3.out.size rfl
        have hsz : (w2.alloc (.cells #[.int .i64 ob.kind, .bool ob.exec, .int .i64 ob.acc, .int .i64 ob.n, .string ob.name, .int .i64 ob.ref, .int .i64 ob.frm, .int .i64 ob.len] 27)).heap.size = w2.heap.size + 1 := by simp
        rw [hsz] at hh
        exact ⟨frm_below HF3.out hb4, ob, 0, HQ.out _ _ _ _ HQ3.out hb4, Or.inr ⟨rfl, _, rfl, hh⟩⟩
      · have g0 : (er != 0) = true := by simp [h0]
        go_wp2_with fail
        go_ret2
        exact ⟨HF3.out, ob, er, HQ3.out, Or.inl ⟨h0, rfl⟩⟩
end Cv
end Go.Proofs.YtfilbfenpdaahaaGreatDoor
namespace Go.Proofs.YtfilbfenpdaahaaGreatDoor
open Go.RowKit
open St
open Stk
open Col
namespace Cv
/-- why access b is not given to a thing of kind k and access a -/
def okE (k a b : Int) : Int := if k = 8 ∧ b = 2 then 16 else if a = 3 ∧ b ≠ 3 then 5 else 0
/-- a thing that is locked: what is known of it -/
structure LkR (O : Nat → Prop) (s : Nat) (k a : Int) (o : Ob) (w : World) : Prop where
  kd : k = 6 ∨ k = 7
  ok : o.kind = k
  oa : o.acc = a
  rep : ∃ fr G, Rep O w s fr G ∧ valid G o = true
structure LkD (O : Nat → Prop) (s : Nat) (k a : Int) (o : Ob) (w : World) : Prop where
  kd : k = 8
  rep : ∃ fr n l ex, Rep O w s fr [(⟨8, [], [], [], n, a⟩, l)] ∧ o = ⟨8, ex, 0, 0, ⟨#[]⟩, 1, 0, 0⟩
def Lk (O : Nat → Prop) (s : Nat) (k a : Int) (o : Ob) (w : World) : Prop := (0 ≤ a ∧ a ≤ 3) ∧ (LkR O s k a o w ∨ LkD O s k a o w)
theorem Lk.below {O : Nat → Prop} {s : Nat} {k a : Int} {o : Ob} {w w' : World} (h : Lk O s k a o w) (hb : Below w.heap.size w w') : Lk O s k a o w' := by
  refine ⟨h.1, ?_⟩
  rcases h.2 with h | h
  · obtain ⟨fr, G, hr, hv⟩ := h.rep
    exact .inl ⟨h.kd, h.ok, h.oa, fr, G, hr.below hb, hv⟩
  · obtain ⟨fr, n, l, ex, hr, ho⟩ := h.rep
    exact .inr ⟨h.kd, fr, n, l, ex, hr.below hb, ho⟩
theorem tld_d (n a : Int) (l : Lay) (ex : Bool) : tld [(⟨8, [], [], [], n, a⟩, l)] ⟨8, ex, 0, 0, ⟨#[]⟩, 1, 0, 0⟩ 8 = some 0 := by simp [tld, Th.length, liesB]
/-- out of it: a store in which it is valid, and has that access -/
theorem Lk.out {O : Nat → Prop} {s : Nat} {k a : Int} {o : Ob} {w : World} (h : Lk O s k a o w) : ∃ fr G, Rep O w s fr G ∧ valid G o = true ∧ acs G o = a ∧ o.kind = k ∧ held o = true := by
  rcases h.2 with h | h
  · obtain ⟨fr, G, hr, hv⟩ := h.rep
    refine ⟨fr, G, hr, hv, ?_, h.ok, ?_⟩
    · unfold acs; rw [h.ok, if_neg (by rcases h.kd with e | e <;> omega), h.oa]
    · unfold held; rw [h.ok]; rcases h.kd with e | e <;> rw [e] <;> rfl
  · obtain ⟨fr, n, l, ex, hr, rfl⟩ := h.rep
    refine ⟨fr, _, hr, ?_, ?_, h.kd.symm, rfl⟩
    · unfold valid; rw [if_pos (by simp), tld_d]; rfl
    · unfold acs; rw [if_pos rfl]; unfold dicT; rw [tld_d]; rfl
def BarP (O : Nat → Prop) (s : Nat) (k a b : Int) (o : Ob) (w : World) (e : Ending) (w' : World) : Prop :=
  Frm O w w' ∧ ((okE k a b ≠ 0 ∧ e = .returned (.tuple #[nul.val, .int .i64 (okE k a b)]) ∧ Lk O s k a o w') ∨ (okE k a b = 0 ∧ ∃ o', e = .returned (.tuple #[o'.val, .int .i64 0]) ∧ Lk O s k (max a b) o' w'))
set_option maxRecDepth 100000 in
set_option maxHeartbeats 1000000 in
theorem bar_row {O : Nat → Prop} {s : Nat} {k a b : Int} {o : Ob} {w : World} (h : LkR O s k a o w) (ha : 0 ≤ a ∧ a ≤ 3) (hb : 1 ≤ b ∧ b ≤ 3) :
    Calls Tryz.prog 41 #[cw s, o.val, .int .i64 b] w (BarP O s k a b o w) := by
  have HLk := Lib.hid h
  obtain ⟨fr, G, hr, hv⟩ := h.rep
  have hk8 : o.kind ≠ 8 := by rw [h.ok]; rcases h.kd with e | e <;> omega
  have hkk : k ≠ 8 := by rcases h.kd with e | e <;> omega
  have hac : acs G o = a := by unfold acs; rw [if_neg hk8, h.oa]
  have hhl : held o = true := by unfold held; rw [h.ok]; rcases h.kd with e | e <;> rw [e] <;> rfl
  have HB := Lib.hid (bx3 (O := O) w (cwC s) (obC o) (obC nul) hr.olt)
  have HH := Lib.hid (fun w2 => isHeld_at o w2)
  have HA := Lib.hid (fun w2 (hb : Below w.heap.size w w2) => accessOf_at (hr.below hb) o)
  have H3 : Hid (Below w.heap.size w (((w.alloc (cwC s)).alloc (obC o)).alloc (obC nul))) := Lib.hid (bthen (below2 w _ _) (below1 _ _))
  have HRv := Lib.hid (fun (w2 : World) (hb : Below w.heap.size w w2) (o' : Ob) (h1 : o'.kind = o.kind) (h2 : o'.ref = o.ref) (h3 : o'.frm = o.frm) (h4 : o'.len = o.len) => (show ∃ fr G, Rep O w2 s fr G ∧ valid G o' = true from ⟨fr, G, hr.below hb, by
    rw [← hv]; unfold valid tld; rw [h1, h2, h3, h4]⟩))
  have e8 : (o.kind == 8) = false := by simp [hk8]
  have hE : okE k a b = if a = 3 ∧ b ≠ 3 then 5 else 0 := by unfold okE; rw [if_neg (fun e => hkk e.1)]
  rw [hac] at HA
  rw [hhl] at HH
  unfold cwC obC nul at HB H3
  unfold Ob.val at HH HA
  unfold cw at HA
  unfold cw Ob.val
  have HK := Lib.hid (And.intro h.kd (And.intro h.ok h.oa))
  clear h hr hv hk8 hkk hac hhl
  by_cases h35 : a = 3 ∧ b ≠ 3
  · have HE := Lib.hid (by rw [hE, if_pos h35] : okE k a b = 5)
    have g1 : (a == 3) = true := by simp [h35.1]
    have g2 : (b != 3) = true := by simp [h35.2]
    have HL2 := Lib.hid (And.intro ha hb)
    clear hE h35 ha hb
    go_enter Tryz.func41, Tryz.ntmps41
    go_wp2_with fail
    refine (HH.out _).mono ?_; rintro e w2 ⟨rfl, hb2⟩
    have K2 := HB.out.below hb2
    have c0 := cellCv K2.b2
    obtain ⟨x0, x1, x2, x3, x4, x5, x6, x7⟩ := cellsOb K2.b1
    obtain ⟨z0, z1, z2, z3, z4, z5, z6, z7⟩ := cellsOb K2.b0
    have HB2 := Lib.hid (bthen H3.out hb2)
    have HK2 := Lib.hid K2
    clear hb2 K2
    go_wp2_with fail
    refine (HA.out _ HB2.out).mono ?_; rintro e w3 ⟨rfl, hb3⟩
    have K3 := HK2.out.below hb3
    have HB3 := Lib.hid (bthen HB2.out hb3)
    have HZ := Lib.hid K3.b0
    have HK3 := Lib.hid K3
    clear c0 x0 x1 x2 x3 x4 x5 x6 x7 z0 z1 z2 z3 z4 z5 z6 z7 hb3
    have zf := blk_free K3.b0
    obtain ⟨z0, z1, z2, z3, z4, z5, z6, z7⟩ := cellsOb K3.b0
    clear K3
    go_wp2_with fail
    have hp := put8 HZ.out (.int .i64 0) (.bool false) (.int .i64 0) (.int .i64 0) (.string ⟨#[]⟩) (.int .i64 0) (.int .i64 0) (.int .i64 0)
    have hbw := below_put8 HB3.out (by omega) hp
    refine bodyPost_ret (results_ob2 Tryz.results41 _ _ (w.heap.size + 1 + 1) rfl rfl hp.blk) rfl ⟨Frm.of_below hbw, Or.inl ⟨by rw [HE.out]; decide, by rw [HE.out]; rfl, ?_⟩⟩
    exact (show Lk O s k a o w from ⟨HL2.out.1, .inl HLk.out⟩).below hbw
  · have HE := Lib.hid (by rw [hE, if_neg h35] : okE k a b = 0)
    clear hE
    by_cases hge : b ≤ a
    · have hm : max a b = a := Int.max_eq_left hge
      have g3 : decide (b ≤ a) = true := decide_eq_true hge
      have HL2 := Lib.hid (And.intro ha (And.intro hb hm))
      have HG := Lib.hid h35
      clear ha hb h35 hm hge
      go_enter Tryz.func41, Tryz.ntmps41
      go_wp2_with fail
      refine (HH.out _).mono ?_; rintro e w2 ⟨rfl, hb2⟩
      have K2 := HB.out.below hb2
      have c0 := cellCv K2.b2
      obtain ⟨x0, x1, x2, x3, x4, x5, x6, x7⟩ := cellsOb K2.b1
      have HB2 := Lib.hid (bthen H3.out hb2)
      have HK2 := Lib.hid K2
      clear hb2 K2
      go_wp2_with fail
      refine (HA.out _ HB2.out).mono ?_; rintro e w3 ⟨rfl, hb3⟩
      have K3 := HK2.out.below hb3
      have HB3 := Lib.hid (bthen HB2.out hb3)
      have HZ := Lib.hid K3.b0
      clear c0 x0 x1 x2 x3 x4 x5 x6 x7 hb3
      obtain ⟨x0, x1, x2, x3, x4, x5, x6, x7⟩ := cellsOb K3.b1
      have zf := blk_free K3.b0
      obtain ⟨z0, z1, z2, z3, z4, z5, z6, z7⟩ := cellsOb K3.b0
      clear K3
      have hb3' : ∃ d1 d2, (a == 3) = d1 ∧ (b != 3) = d2 ∧ (d1 = false ∨ d2 = false) := ⟨_, _, rfl, rfl, by
        by_cases e1 : a = 3
        · right
          have : b = 3 := Classical.byContradiction (fun e2 => HG.out ⟨e1, e2⟩)
          simp [this]
        · left; simp [e1]⟩
      obtain ⟨d1, d2, q1, q2, hor⟩ := hb3'
      rcases hor with rfl | rfl
      all_goals (try cases d1)
      all_goals
        go_wp2_with fail
        have hp := put8 HZ.out (.int .i64 o.kind) (.bool o.exec) (.int .i64 o.acc) (.int .i64 o.n) (.string o.name) (.int .i64 o.ref) (.int .i64 o.frm) (.int .i64 o.len)
        have hbw := below_put8 HB3.out (by omega) hp
        refine bodyPost_ret (results_ob2 Tryz.results41 _ _ (w.heap.size + 1 + 1) rfl rfl hp.blk) rfl ⟨Frm.of_below hbw, Or.inr ⟨HE.out, o, rfl, ?_⟩⟩
        rw [HL2.out.2.2]
        exact (show Lk O s k a o w from ⟨HL2.out.1, .inl HLk.out⟩).below hbw
    · have hm : max a b = b := Int.max_eq_right (by omega)
      have g1 : (a == 3) = false := by simp; omega
      have g3 : decide (b ≤ a) = false := decide_eq_false hge
      have HL2 := Lib.hid (And.intro ha (And.intro hb hm))
      clear ha hb h35 hm hge
      go_enter Tryz.func41, Tryz.ntmps41
      go_wp2_with fail
      refine (HH.out _).mono ?_; rintro e w2 ⟨rfl, hb2⟩
      have K2 := HB.out.below hb2
      have c0 := cellCv K2.b2
      obtain ⟨x0, x1, x2, x3, x4, x5, x6, x7⟩ := cellsOb K2.b1
      have HB2 := Lib.hid (bthen H3.out hb2)
      have HK2 := Lib.hid K2
      clear hb2 K2
      go_wp2_with fail
      refine (HA.out _ HB2.out).mono ?_; rintro e w3 ⟨rfl, hb3⟩
      have K3 := HK2.out.below hb3
      have HB3 := Lib.hid (bthen HB2.out hb3)
      have HZ := Lib.hid K3.b0
      clear c0 x0 x1 x2 x3 x4 x5 x6 x7 hb3
      obtain ⟨x0, x1, x2, x3, x4, x5, x6, x7⟩ := cellsOb K3.b1
      have xf := blk_free K3.b1
      have zf := blk_free K3.b0
      obtain ⟨z0, z1, z2, z3, z4, z5, z6, z7⟩ := cellsOb K3.b0
      clear K3
      go_wp2_with fail
      have hp := put8 ((blk_far (by omega) (.int .i64 b) (B := w.heap.size + 1) (j := 2)).trans HZ.out) (.int .i64 o.kind) (.bool o.exec) (.int .i64 b) (.int .i64 o.n) (.string o.name) (.int .i64 o.ref) (.int .i64 o.frm) (.int .i64 o.len)
      have hbw := below_put8 (below_set HB3.out (a := ⟨w.heap.size + 1, 2, none⟩) (by simp) (.int .i64 b)) (by omega) hp
      refine bodyPost_ret (results_ob2 Tryz.results41 _ _ (w.heap.size + 1 + 1) rfl rfl hp.blk) rfl ⟨Frm.of_below hbw, Or.inr ⟨HE.out, ⟨o.kind, o.exec, b, o.n, o.name, o.ref, o.frm, o.len⟩, rfl, ?_⟩⟩
      rw [HL2.out.2.2]
      exact ⟨⟨by have := HL2.out.2.1; omega, HL2.out.2.1.2⟩, .inl ⟨HK.out.1, HK.out.2.1, rfl, HRv.out _ hbw _ rfl rfl rfl rfl⟩⟩
end Cv
end Go.Proofs.YtfilbfenpdaahaaGreatDoor
namespace Go.Proofs.YtfilbfenpdaahaaGreatDoor
open Go.RowKit
open St
open Stk
open Col
namespace Cv
def dO (ex : Bool) : Ob := ⟨8, ex, 0, 0, ⟨#[]⟩, 1, 0, 0⟩
theorem lock_d (n a b : Int) (l : Lay) (ex : Bool) (hb : 0 ≤ b ∧ b ≤ 3) : lockE [(⟨8, [], [], [], n, a⟩, l)] (dO ex) b = 0 ∧ lockR [(⟨8, [], [], [], n, a⟩, l)] (dO ex) b = [(⟨8, [], [], [], n, b⟩, l)] := by
  unfold lockE lockR dO
  rw [tld_d]
  exact ⟨by rw [if_neg (by simp), if_pos hb], rfl⟩
theorem keep9 {W : World} {b c B : Nat} {u0 u1 u2 u3 u4 u5 u6 u7 e0 e1 e2 e3 e4 e5 e6 e7 v : Value} (hb : b ≠ B) (hc : c ≠ B) (h : (W).cell? ⟨b, 0, none⟩ = some u0 ∧ (W).cell? ⟨b, 1, none⟩ = some u1 ∧ (W).cell? ⟨b, 2, none⟩ = some u2 ∧ (W).cell? ⟨b, 3, none⟩ = some u3 ∧ (W).cell? ⟨b, 4, none⟩ = some u4 ∧ (W).cell? ⟨b, 5, none⟩ = some u5 ∧ (W).cell? ⟨b, 6, none⟩ = some u6 ∧ (W).cell? ⟨b, 7, none⟩ = some u7 ∧ (W).cell? ⟨c, 0, none⟩ = some v) : (((((((((W.setCell ⟨B, 0, none⟩ e0).setCell ⟨B, 1, none⟩ e1).setCell ⟨B, 2, none⟩ e2).setCell ⟨B, 3, none⟩ e3).setCell ⟨B, 4, none⟩ e4).setCell ⟨B, 5, none⟩ e5).setCell ⟨B, 6, none⟩ e6).setCell ⟨B, 7, none⟩ e7)).cell? ⟨b, 0, none⟩ = some u0 ∧ (((((((((W.setCell ⟨B, 0, none⟩ e0).setCell ⟨B, 1, none⟩ e1).setCell ⟨B, 2, none⟩ e2).setCell ⟨B, 3, none⟩ e3).setCell ⟨B, 4, none⟩ e4).setCell ⟨B, 5, none⟩ e5).setCell ⟨B, 6, none⟩ e6).setCell ⟨B, 7, none⟩ e7)).cell? ⟨b, 1, none⟩ = some u1 ∧ (((((((((W.setCell ⟨B, 0, none⟩ e0).setCell ⟨B, 1, none⟩ e1).setCell ⟨B, 2, none⟩ e2).setCell ⟨B, 3, none⟩ e3).setCell ⟨B, 4, none⟩ e4).setCell ⟨B, 5, none⟩ e5).setCell ⟨B, 6, none⟩ e6).setCell ⟨B, 7, none⟩ e7)).cell? ⟨b, 2, none⟩ = some u2 ∧ (((((((((W.setCell ⟨B, 0, none⟩ e0).setCell ⟨B, 1, none⟩ e1).setCell ⟨B, 2, none⟩ e2).setCell ⟨B, 3, none⟩ e3).setCell ⟨B, 4, none⟩ e4).setCell ⟨B, 5, none⟩ e5).setCell ⟨B, 6, none⟩ e6).setCell ⟨B, 7, none⟩ e7)).cell? ⟨b, 3, none⟩ = some u3 ∧ (((((((((W.setCell ⟨B, 0, none⟩ e0).setCell ⟨B, 1, none⟩ e1).setCell ⟨B, 2, none⟩ e2).setCell ⟨B, 3, none⟩ e3).setCell ⟨B, 4, none⟩ e4).setCell ⟨B, 5, none⟩ e5).setCell ⟨B, 6, none⟩ e6).setCell ⟨B, 7, none⟩ e7)).cell? ⟨b, 4, none⟩ = some u4 ∧ (((((((((W.setCell ⟨B, 0, none⟩ e0).setCell ⟨B, 1, none⟩ e1).setCell ⟨B, 2, none⟩ e2).setCell ⟨B, 3, none⟩ e3).setCell ⟨B, 4, none⟩ e4).setCell ⟨B, 5, none⟩ e5).setCell ⟨B, 6, none⟩ e6).setCell ⟨B, 7, none⟩ e7)).cell? ⟨b, 5, none⟩ = some u5 ∧ (((((((((W.setCell ⟨B, 0, none⟩ e0).setCell ⟨B, 1, none⟩ e1).setCell ⟨B, 2, none⟩ e2).setCell ⟨B, 3, none⟩ e3).setCell ⟨B, 4, none⟩ e4).setCell ⟨B, 5, none⟩ e5).setCell ⟨B, 6, none⟩ e6).setCell ⟨B, 7, none⟩ e7)).cell? ⟨b, 6, none⟩ = some u6 ∧ (((((((((W.setCell ⟨B, 0, none⟩ e0).setCell ⟨B, 1, none⟩ e1).setCell ⟨B, 2, none⟩ e2).setCell ⟨B, 3, none⟩ e3).setCell ⟨B, 4, none⟩ e4).setCell ⟨B, 5, none⟩ e5).setCell ⟨B, 6, none⟩ e6).setCell ⟨B, 7, none⟩ e7)).cell? ⟨b, 7, none⟩ = some u7 ∧ (((((((((W.setCell ⟨B, 0, none⟩ e0).setCell ⟨B, 1, none⟩ e1).setCell ⟨B, 2, none⟩ e2).setCell ⟨B, 3, none⟩ e3).setCell ⟨B, 4, none⟩ e4).setCell ⟨B, 5, none⟩ e5).setCell ⟨B, 6, none⟩ e6).setCell ⟨B, 7, none⟩ e7)).cell? ⟨c, 0, none⟩ = some v := by
  obtain ⟨h0, h1, h2, h3, h4, h5, h6, h7, h8⟩ := h
  have hk : ∀ {q j : Nat} {u : Value}, q ≠ B → W.cell? ⟨q, j, none⟩ = some u → (((((((((W.setCell ⟨B, 0, none⟩ e0).setCell ⟨B, 1, none⟩ e1).setCell ⟨B, 2, none⟩ e2).setCell ⟨B, 3, none⟩ e3).setCell ⟨B, 4, none⟩ e4).setCell ⟨B, 5, none⟩ e5).setCell ⟨B, 6, none⟩ e6).setCell ⟨B, 7, none⟩ e7)).cell? ⟨q, j, none⟩ = some u := fun hq hu => (World.cell?_of_block (by rw [blk_far hq, blk_far hq, blk_far hq, blk_far hq, blk_far hq, blk_far hq, blk_far hq, blk_far hq])).trans hu
  exact ⟨hk hb h0, hk hb h1, hk hb h2, hk hb h3, hk hb h4, hk hb h5, hk hb h6, hk hb h7, hk hc h8⟩
theorem turn_ok {O : Nat → Prop} {w w' : World} {s : Nat} {fr : Int} {G : List (Th × Lay)} {e : Ending} (h : Turn O w s fr 0 G e w') : e = .returned (.int .i64 0) ∧ Frm O w w' ∧ Rep O w' s fr G := by
  obtain ⟨rfl, ⟨hno, _⟩ | ⟨_, hr, hf⟩⟩ := h
  · exact absurd rfl hno
  · exact ⟨rfl, hf, hr⟩
theorem cell9 {W W' : World} {b c : Nat} {u0 u1 u2 u3 u4 u5 u6 u7 v : Value} {O : Nat → Prop} (hF : Frm O W W') (hb : ¬ O b) (hc : ¬ O c)
    (h : W.cell? ⟨b, 0, none⟩ = some u0 ∧ W.cell? ⟨b, 1, none⟩ = some u1 ∧ W.cell? ⟨b, 2, none⟩ = some u2 ∧ W.cell? ⟨b, 3, none⟩ = some u3 ∧ W.cell? ⟨b, 4, none⟩ = some u4 ∧ W.cell? ⟨b, 5, none⟩ = some u5 ∧ W.cell? ⟨b, 6, none⟩ = some u6 ∧ W.cell? ⟨b, 7, none⟩ = some u7 ∧ W.cell? ⟨c, 0, none⟩ = some v) :
    W'.cell? ⟨b, 0, none⟩ = some u0 ∧ W'.cell? ⟨b, 1, none⟩ = some u1 ∧ W'.cell? ⟨b, 2, none⟩ = some u2 ∧ W'.cell? ⟨b, 3, none⟩ = some u3 ∧ W'.cell? ⟨b, 4, none⟩ = some u4 ∧ W'.cell? ⟨b, 5, none⟩ = some u5 ∧ W'.cell? ⟨b, 6, none⟩ = some u6 ∧ W'.cell? ⟨b, 7, none⟩ = some u7 ∧ W'.cell? ⟨c, 0, none⟩ = some v := by
  obtain ⟨h0, h1, h2, h3, h4, h5, h6, h7, h8⟩ := h
  have hk : ∀ {q j : Nat} {u : Value}, ¬ O q → W.cell? ⟨q, j, none⟩ = some u → W'.cell? ⟨q, j, none⟩ = some u := fun hq hu => (World.cell?_of_block (hF.block _ (World.block_lt_of_cell? W _ hu) hq)).trans hu
  exact ⟨hk hb h0, hk hb h1, hk hb h2, hk hb h3, hk hb h4, hk hb h5, hk hb h6, hk hb h7, hk hc h8⟩
set_option maxRecDepth 100000 in
set_option maxHeartbeats 1000000 in
theorem bar_d2 {O : Nat → Prop} {s : Nat} {a b fr n : Int} {l : Lay} {ex : Bool} {w : World} (hr : Rep O w s fr [(⟨8, [], [], [], n, a⟩, l)]) (ha : 0 ≤ a ∧ a ≤ 3) (_hb : 1 ≤ b ∧ b ≤ 3) (h2 : b = 2) :
    Calls Tryz.prog 41 #[cw s, (dO ex).val, .int .i64 b] w (BarP O s 8 a b (dO ex) w) := by
  have hlk : Lk O s 8 a (dO ex) w := ⟨ha, .inr ⟨rfl, fr, n, l, ex, hr, rfl⟩⟩
  have hac : acs [(⟨8, [], [], [], n, a⟩, l)] (dO ex) = a := by unfold acs dO; rw [if_pos rfl]; unfold dicT; rw [tld_d]; rfl
  have HB := Lib.hid (bx3 (O := O) w (cwC s) (obC (dO ex)) (obC nul) hr.olt)
  have HH := Lib.hid (fun w2 => isHeld_at (dO ex) w2)
  have HA := Lib.hid (fun w2 (hb : Below w.heap.size w w2) => accessOf_at (hr.below hb) (dO ex))
  have H3 : Hid (Below w.heap.size w (((w.alloc (cwC s)).alloc (obC (dO ex))).alloc (obC nul))) := Lib.hid (bthen (below2 w _ _) (below1 _ _))
  rw [hac] at HA
  rw [show held (dO ex) = true from rfl] at HH
  have HLk := Lib.hid hlk
  have HR := Lib.hid hr
  unfold cwC obC nul dO at HB H3
  unfold dO Ob.val at HH HA
  unfold cw at HA
  unfold cw dO Ob.val
  have HE := Lib.hid (by unfold okE; rw [if_pos ⟨rfl, h2⟩] : okE 8 a b = 16)
  have g2 : (b == 2) = true := by simp [h2]
  clear h2 ha
  clear hr hlk hac
  go_enter Tryz.func41, Tryz.ntmps41
  go_wp2_with fail
  refine (HH.out _).mono ?_; rintro e w2 ⟨rfl, hb2⟩
  have K2 := HB.out.below hb2
  have c0 := cellCv K2.b2
  obtain ⟨x0, x1, x2, x3, x4, x5, x6, x7⟩ := cellsOb K2.b1
  have zf := blk_free K2.b0
  obtain ⟨z0, z1, z2, z3, z4, z5, z6, z7⟩ := cellsOb K2.b0
  have HZ2 := Lib.hid K2.b0
  have HB2 := Lib.hid (bthen H3.out hb2)
  have HK2 := Lib.hid K2
  clear hb2 K2
  go_wp2_with fail
  have hp := put8 HZ2.out (.int .i64 0) (.bool false) (.int .i64 0) (.int .i64 0) (.string ⟨#[]⟩) (.int .i64 0) (.int .i64 0) (.int .i64 0)
  have hbw := below_put8 HB2.out (by omega) hp
  exact bodyPost_ret (results_ob2 Tryz.results41 _ _ (w.heap.size + 1 + 1) rfl rfl hp.blk) rfl ⟨Frm.of_below hbw, Or.inl ⟨by rw [HE.out]; decide, by rw [HE.out]; rfl, HLk.out.below hbw⟩⟩
set_option maxRecDepth 100000 in
set_option maxHeartbeats 1000000 in
theorem bar_d5 {O : Nat → Prop} {s : Nat} {a b fr n : Int} {l : Lay} {ex : Bool} {w : World} (hr : Rep O w s fr [(⟨8, [], [], [], n, a⟩, l)]) (ha : 0 ≤ a ∧ a ≤ 3) (_hb : 1 ≤ b ∧ b ≤ 3) (h2 : b ≠ 2) (h35 : a = 3 ∧ b ≠ 3) :
    Calls Tryz.prog 41 #[cw s, (dO ex).val, .int .i64 b] w (BarP O s 8 a b (dO ex) w) := by
  have hlk : Lk O s 8 a (dO ex) w := ⟨ha, .inr ⟨rfl, fr, n, l, ex, hr, rfl⟩⟩
  have hac : acs [(⟨8, [], [], [], n, a⟩, l)] (dO ex) = a := by unfold acs dO; rw [if_pos rfl]; unfold dicT; rw [tld_d]; rfl
  have HB := Lib.hid (bx3 (O := O) w (cwC s) (obC (dO ex)) (obC nul) hr.olt)
  have HH := Lib.hid (fun w2 => isHeld_at (dO ex) w2)
  have HA := Lib.hid (fun w2 (hb : Below w.heap.size w w2) => accessOf_at (hr.below hb) (dO ex))
  have H3 : Hid (Below w.heap.size w (((w.alloc (cwC s)).alloc (obC (dO ex))).alloc (obC nul))) := Lib.hid (bthen (below2 w _ _) (below1 _ _))
  rw [hac] at HA
  rw [show held (dO ex) = true from rfl] at HH
  have HLk := Lib.hid hlk
  have HR := Lib.hid hr
  unfold cwC obC nul dO at HB H3
  unfold dO Ob.val at HH HA
  unfold cw at HA
  unfold cw dO Ob.val
  have HE := Lib.hid (by unfold okE; rw [if_neg (fun e => h2 e.2), if_pos h35] : okE 8 a b = 5)
  have g2 : (b == 2) = false := by simp [h2]
  have g3 : (a == 3) = true := by simp [h35.1]
  have g4 : (b != 3) = true := by simp [h35.2]
  clear h2 ha h35
  clear hr hlk hac
  go_enter Tryz.func41, Tryz.ntmps41
  go_wp2_with fail
  refine (HH.out _).mono ?_; rintro e w2 ⟨rfl, hb2⟩
  have K2 := HB.out.below hb2
  have c0 := cellCv K2.b2
  obtain ⟨x0, x1, x2, x3, x4, x5, x6, x7⟩ := cellsOb K2.b1
  have zf := blk_free K2.b0
  obtain ⟨z0, z1, z2, z3, z4, z5, z6, z7⟩ := cellsOb K2.b0
  have HZ2 := Lib.hid K2.b0
  have HB2 := Lib.hid (bthen H3.out hb2)
  have HK2 := Lib.hid K2
  clear hb2 K2
  go_wp2_with fail
  refine (HA.out _ HB2.out).mono ?_; rintro e w3 ⟨rfl, hb3⟩
  have K3 := HK2.out.below hb3
  have HB3 := Lib.hid (bthen HB2.out hb3)
  have HZ := Lib.hid K3.b0
  have HK3 := Lib.hid K3
  clear c0 x0 x1 x2 x3 x4 x5 x6 x7 zf z0 z1 z2 z3 z4 z5 z6 z7 hb3
  have c0 := cellCv K3.b2
  obtain ⟨x0, x1, x2, x3, x4, x5, x6, x7⟩ := cellsOb K3.b1
  have zf := blk_free K3.b0
  obtain ⟨z0, z1, z2, z3, z4, z5, z6, z7⟩ := cellsOb K3.b0
  clear K3
  go_wp2_with fail
  have hp := put8 HZ.out (.int .i64 0) (.bool false) (.int .i64 0) (.int .i64 0) (.string ⟨#[]⟩) (.int .i64 0) (.int .i64 0) (.int .i64 0)
  have hbw := below_put8 HB3.out (by omega) hp
  exact bodyPost_ret (results_ob2 Tryz.results41 _ _ (w.heap.size + 1 + 1) rfl rfl hp.blk) rfl ⟨Frm.of_below hbw, Or.inl ⟨by rw [HE.out]; decide, by rw [HE.out]; rfl, HLk.out.below hbw⟩⟩
set_option maxRecDepth 100000 in
set_option maxHeartbeats 1000000 in
theorem bar_d0 {O : Nat → Prop} {s : Nat} {a b fr n : Int} {l : Lay} {ex : Bool} {w : World} (hr : Rep O w s fr [(⟨8, [], [], [], n, a⟩, l)]) (ha : 0 ≤ a ∧ a ≤ 3) (_hb : 1 ≤ b ∧ b ≤ 3) (h2 : b ≠ 2) (h35 : ¬ (a = 3 ∧ b ≠ 3)) (hge : b ≤ a) :
    Calls Tryz.prog 41 #[cw s, (dO ex).val, .int .i64 b] w (BarP O s 8 a b (dO ex) w) := by
  have hlk : Lk O s 8 a (dO ex) w := ⟨ha, .inr ⟨rfl, fr, n, l, ex, hr, rfl⟩⟩
  have hac : acs [(⟨8, [], [], [], n, a⟩, l)] (dO ex) = a := by unfold acs dO; rw [if_pos rfl]; unfold dicT; rw [tld_d]; rfl
  have HB := Lib.hid (bx3 (O := O) w (cwC s) (obC (dO ex)) (obC nul) hr.olt)
  have HH := Lib.hid (fun w2 => isHeld_at (dO ex) w2)
  have HA := Lib.hid (fun w2 (hb : Below w.heap.size w w2) => accessOf_at (hr.below hb) (dO ex))
  have H3 : Hid (Below w.heap.size w (((w.alloc (cwC s)).alloc (obC (dO ex))).alloc (obC nul))) := Lib.hid (bthen (below2 w _ _) (below1 _ _))
  rw [hac] at HA
  rw [show held (dO ex) = true from rfl] at HH
  have HLk := Lib.hid hlk
  have HR := Lib.hid hr
  unfold cwC obC nul dO at HB H3
  unfold dO Ob.val at HH HA
  unfold cw at HA
  unfold cw dO Ob.val
  have HE := Lib.hid (by unfold okE; rw [if_neg (fun e => h2 e.2), if_neg h35] : okE 8 a b = 0)
  have g2 : (b == 2) = false := by simp [h2]
  have g5 : decide (b ≤ a) = true := decide_eq_true hge
  have HM := Lib.hid (Int.max_eq_left hge)
  have HG := Lib.hid h35
  clear h2 ha h35 hge
  clear hr hlk hac
  go_enter Tryz.func41, Tryz.ntmps41
  go_wp2_with fail
  refine (HH.out _).mono ?_; rintro e w2 ⟨rfl, hb2⟩
  have K2 := HB.out.below hb2
  have c0 := cellCv K2.b2
  obtain ⟨x0, x1, x2, x3, x4, x5, x6, x7⟩ := cellsOb K2.b1
  have zf := blk_free K2.b0
  obtain ⟨z0, z1, z2, z3, z4, z5, z6, z7⟩ := cellsOb K2.b0
  have HZ2 := Lib.hid K2.b0
  have HB2 := Lib.hid (bthen H3.out hb2)
  have HK2 := Lib.hid K2
  clear hb2 K2
  go_wp2_with fail
  refine (HA.out _ HB2.out).mono ?_; rintro e w3 ⟨rfl, hb3⟩
  have K3 := HK2.out.below hb3
  have HB3 := Lib.hid (bthen HB2.out hb3)
  have HZ := Lib.hid K3.b0
  have HK3 := Lib.hid K3
  clear c0 x0 x1 x2 x3 x4 x5 x6 x7 zf z0 z1 z2 z3 z4 z5 z6 z7 hb3
  have c0 := cellCv K3.b2
  obtain ⟨x0, x1, x2, x3, x4, x5, x6, x7⟩ := cellsOb K3.b1
  have zf := blk_free K3.b0
  obtain ⟨z0, z1, z2, z3, z4, z5, z6, z7⟩ := cellsOb K3.b0
  clear K3
  have hb3' : ∃ d1 d2, (a == 3) = d1 ∧ (b != 3) = d2 ∧ (d1 = false ∨ d2 = false) := ⟨_, _, rfl, rfl, by
    by_cases e1 : a = 3
    · right
      have : b = 3 := Classical.byContradiction (fun e2 => HG.out ⟨e1, e2⟩)
      simp [this]
    · left; simp [e1]⟩
  obtain ⟨d1, d2, q1, q2, hor⟩ := hb3'
  rcases hor with rfl | rfl
  all_goals (try cases d1)
  all_goals
    go_wp2_with fail
    have hp := put8 HZ.out (.int .i64 8) (.bool ex) (.int .i64 0) (.int .i64 0) (.string ⟨#[]⟩) (.int .i64 1) (.int .i64 0) (.int .i64 0)
    have hbw := below_put8 HB3.out (by omega) hp
    refine bodyPost_ret (results_ob2 Tryz.results41 _ _ (w.heap.size + 1 + 1) rfl rfl hp.blk) rfl ⟨Frm.of_below hbw, Or.inr ⟨HE.out, dO ex, rfl, ?_⟩⟩
    rw [HM.out]
    exact HLk.out.below hbw
set_option maxRecDepth 100000 in
set_option maxHeartbeats 1000000 in
theorem bar_d1 {O : Nat → Prop} {s : Nat} {a b fr n : Int} {l : Lay} {ex : Bool} {w : World} (hr : Rep O w s fr [(⟨8, [], [], [], n, a⟩, l)]) (ha : 0 ≤ a ∧ a ≤ 3) (hb : 1 ≤ b ∧ b ≤ 3) (h2 : b ≠ 2) (hge : a < b) :
    Calls Tryz.prog 41 #[cw s, (dO ex).val, .int .i64 b] w (BarP O s 8 a b (dO ex) w) := by
  have hlk : Lk O s 8 a (dO ex) w := ⟨ha, .inr ⟨rfl, fr, n, l, ex, hr, rfl⟩⟩
  have hac : acs [(⟨8, [], [], [], n, a⟩, l)] (dO ex) = a := by unfold acs dO; rw [if_pos rfl]; unfold dicT; rw [tld_d]; rfl
  have HB := Lib.hid (bx3 (O := O) w (cwC s) (obC (dO ex)) (obC nul) hr.olt)
  have HH := Lib.hid (fun w2 => isHeld_at (dO ex) w2)
  have HA := Lib.hid (fun w2 (hb : Below w.heap.size w w2) => accessOf_at (hr.below hb) (dO ex))
  have H3 : Hid (Below w.heap.size w (((w.alloc (cwC s)).alloc (obC (dO ex))).alloc (obC nul))) := Lib.hid (bthen (below2 w _ _) (below1 _ _))
  rw [hac] at HA
  rw [show held (dO ex) = true from rfl] at HH
  have HLk := Lib.hid hlk
  have HR := Lib.hid hr
  unfold cwC obC nul dO at HB H3
  unfold dO Ob.val at HH HA
  unfold cw at HA
  unfold cw dO Ob.val
  have HE := Lib.hid (by unfold okE; rw [if_neg (fun e => h2 e.2), if_neg (by omega)] : okE 8 a b = 0)
  have g2 : (b == 2) = false := by simp [h2]
  have g3 : (a == 3) = false := by simp; omega
  have g5 : decide (b ≤ a) = false := decide_eq_false (by omega)
  have HM := Lib.hid (Int.max_eq_right (Int.le_of_lt hge))
  have HL0 := Lib.hid (And.intro (show 0 ≤ b ∧ b ≤ 3 by omega) (fun w2 (hb2 : Below w.heap.size w w2) => lock_at (hr.below hb2) (dO ex) b))
  clear h2 ha hb hge
  clear hr hlk hac
  go_enter Tryz.func41, Tryz.ntmps41
  go_wp2_with fail
  refine (HH.out _).mono ?_; rintro e w2 ⟨rfl, hb2⟩
  have K2 := HB.out.below hb2
  have c0 := cellCv K2.b2
  obtain ⟨x0, x1, x2, x3, x4, x5, x6, x7⟩ := cellsOb K2.b1
  have zf := blk_free K2.b0
  obtain ⟨z0, z1, z2, z3, z4, z5, z6, z7⟩ := cellsOb K2.b0
  have HZ2 := Lib.hid K2.b0
  have HB2 := Lib.hid (bthen H3.out hb2)
  have HK2 := Lib.hid K2
  clear hb2 K2
  go_wp2_with fail
  refine (HA.out _ HB2.out).mono ?_; rintro e w3 ⟨rfl, hb3⟩
  have K3 := HK2.out.below hb3
  have HB3 := Lib.hid (bthen HB2.out hb3)
  have HZ := Lib.hid K3.b0
  have HK3 := Lib.hid K3
  clear c0 x0 x1 x2 x3 x4 x5 x6 x7 zf z0 z1 z2 z3 z4 z5 z6 z7 hb3
  have c0 := cellCv K3.b2
  obtain ⟨x0, x1, x2, x3, x4, x5, x6, x7⟩ := cellsOb K3.b1
  have zf := blk_free K3.b0
  obtain ⟨z0, z1, z2, z3, z4, z5, z6, z7⟩ := cellsOb K3.b0
  clear K3
  go_upto_region 9 with fail
  have hL := HL0.out.2 w3.drew (below_draw HB3.out 1)
  rw [(lock_d n a b l ex HL0.out.1).1, (lock_d n a b l ex HL0.out.1).2] at hL
  have HL := Lib.hid hL
  unfold dO Ob.val at HL
  have HO := Lib.hid (show ¬ O (w.heap.size + 1) ∧ ¬ O w.heap.size ∧ ¬ O (w.heap.size + 1 + 1) from ⟨fun e => by have := HR.out.olt _ e; omega, fun e => by have := HR.out.olt _ e; omega, fun e => by have := HR.out.olt _ e; omega⟩)
  have sI := And.intro x0 (And.intro x1 (And.intro x2 (And.intro x3 (And.intro x4 (And.intro x5 (And.intro x6 (And.intro x7 c0)))))))
  have sD : w3.drew.cell? ⟨w.heap.size + 1, 0, none⟩ = some (.int .i64 8) ∧ w3.drew.cell? ⟨w.heap.size + 1, 1, none⟩ = some (.bool ex) ∧ w3.drew.cell? ⟨w.heap.size + 1, 2, none⟩ = some (.int .i64 0) ∧ w3.drew.cell? ⟨w.heap.size + 1, 3, none⟩ = some (.int .i64 0) ∧ w3.drew.cell? ⟨w.heap.size + 1, 4, none⟩ = some (.string ⟨#[]⟩) ∧ w3.drew.cell? ⟨w.heap.size + 1, 5, none⟩ = some (.int .i64 1) ∧ w3.drew.cell? ⟨w.heap.size + 1, 6, none⟩ = some (.int .i64 0) ∧ w3.drew.cell? ⟨w.heap.size + 1, 7, none⟩ = some (.int .i64 0) ∧ w3.drew.cell? ⟨w.heap.size, 0, none⟩ = some (.pointer (some ⟨s, 0, none⟩)) := sI
  clear hL
  go_cut [7] (fun v wx => v = .int .i64 0 ∧ ∃ w4, Frm O w3 w4 ∧ (∃ fr, Rep O w4 s fr [(⟨8, [], [], [], n, b⟩, l)]) ∧ Put8 w4 (w.heap.size + 1 + 1) 27 (.int .i64 8) (.bool ex) (.int .i64 0) (.int .i64 0) (.string ⟨#[]⟩) (.int .i64 1) (.int .i64 0) (.int .i64 0) wx)
  case first =>
    go_region_held3 (fun w' => w'.cell? ⟨w.heap.size + 1, 0, none⟩ = some (.int .i64 8) ∧ w'.cell? ⟨w.heap.size + 1, 1, none⟩ = some (.bool ex) ∧ w'.cell? ⟨w.heap.size + 1, 2, none⟩ = some (.int .i64 0) ∧ w'.cell? ⟨w.heap.size + 1, 3, none⟩ = some (.int .i64 0) ∧ w'.cell? ⟨w.heap.size + 1, 4, none⟩ = some (.string ⟨#[]⟩) ∧ w'.cell? ⟨w.heap.size + 1, 5, none⟩ = some (.int .i64 1) ∧ w'.cell? ⟨w.heap.size + 1, 6, none⟩ = some (.int .i64 0) ∧ w'.cell? ⟨w.heap.size + 1, 7, none⟩ = some (.int .i64 0) ∧ w'.cell? ⟨w.heap.size, 0, none⟩ = some (.pointer (some ⟨s, 0, none⟩))) (first | with_reducible exact sD | with_reducible exact sI | with_reducible exact sL | with_reducible exact keep9 (by omega) (by omega) sL | fail) ((go_at_call 29; refine HL.out.mono ?_; rintro e wL hT; obtain ⟨rfl, hF, hRL⟩ := turn_ok hT; have sL := cell9 hF HO.out.1 HO.out.2.1 sD; have hz := (hF.block _ (Array.getElem?_eq_some_iff.1 HZ.out).1 HO.out.2.2).trans HZ.out; obtain ⟨r0, r1, r2, r3, r4, r5, r6, r7⟩ := cellsOb hz; have rf := blk_free hz))
    all_goals go_wp2_with fail
    all_goals go_meet
    exact ⟨rfl, wL, ⟨hF.os, hF.tape, hF.output, hF.size, hF.block⟩, ⟨_, hRL⟩, put8 hz _ _ _ _ _ _ _ _⟩
  case rest =>
    obtain ⟨rfl, w4, hF, hR4, hp⟩ := hcut
    have HE4 := Lib.hid (And.intro hF (And.intro hR4 hp))
    clear hF hR4 hp
    go_wp2_with fail
    have hp := HE4.out.2.2
    have hFa : Frm O w wc := ⟨hp.os.trans (HE4.out.1.os.trans HB3.out.os), hp.tape.trans (HE4.out.1.tape.trans HB3.out.tape), hp.output.trans (HE4.out.1.output.trans HB3.out.output), by rw [hp.size]; exact Nat.le_trans HB3.out.size HE4.out.1.size, fun k hk hO => (hp.far k (by omega)).trans ((HE4.out.1.block k (Nat.lt_of_lt_of_le hk HB3.out.size) hO).trans (HB3.out.block k hk))⟩
    refine bodyPost_ret (results_ob2 Tryz.results41 _ _ (w.heap.size + 1 + 1) rfl rfl hp.blk) rfl ⟨hFa, Or.inr ⟨HE.out, dO ex, rfl, ?_⟩⟩
    rw [HM.out]
    obtain ⟨fr4, hR4⟩ := HE4.out.2.1
    exact ⟨HL0.out.1, .inr ⟨rfl, fr4, n, l, ex, hR4.same (by rw [hp.size]; exact Nat.le_refl _) (fun k _ hk => hp.far k (fun e => HO.out.2.2 (by rw [← e]; exact hk))), rfl⟩⟩
theorem bar_at {O : Nat → Prop} {s : Nat} {k a b : Int} {o : Ob} {w : World} (h : Lk O s k a o w) (hb : 1 ≤ b ∧ b ≤ 3) :
    Calls Tryz.prog 41 #[cw s, o.val, .int .i64 b] w (BarP O s k a b o w) := by
  obtain ⟨ha, h | h⟩ := h
  · exact bar_row h ha hb
  · obtain ⟨fr, n, l, ex, hr, rfl⟩ := h.rep
    obtain rfl := h.kd
    by_cases h2 : b = 2
    · exact bar_d2 hr ha hb h2
    by_cases h35 : a = 3 ∧ b ≠ 3
    · exact bar_d5 hr ha hb h2 h35
    by_cases hge : b ≤ a
    · exact bar_d0 hr ha hb h2 h35 hge
    · exact bar_d1 hr ha hb h2 (by omega)
end Cv
end Go.Proofs.YtfilbfenpdaahaaGreatDoor
namespace Go.Proofs.YtfilbfenpdaahaaGreatDoor
open Go.RowKit
open St
open Stk
open Col
namespace Cv
/-- what is answered and what the store has, when a text was laid -/
def LayP (O : Nat → Prop) (w : World) (s : Nat) (fr : Int) (G' : List (Th × Lay)) (q : Ob) (e : Ending) (w' : World) : Prop :=
  e = .returned (.tuple #[q.val, .int .i64 0]) ∧ Frm O w w' ∧ Rep O w' s fr G'
set_option maxRecDepth 100000 in
set_option maxHeartbeats 1000000 in
theorem lay_at {O : Nat → Prop} {w : World} {s c0 : Nat} {fr : Int} {G G' : List (Th × Lay)} {a : Option Addr} {b : List UInt8} {rm q : Ob} (h : Rep O w s fr G) (hS : Src w a b) (hac : acs G rm = 0)
    (hp : partR G rm 0 b.length = (q, 0)) (hw : writeE G q 0 b.length = 0) (hg : writeR G q 0 b = G') :
    Calls Tryz.prog 56 #[cw s, .slice a b.length c0, rm.val] w (LayP O w s fr G' q) := by
  have HB := Lib.hid (bx3 (O := O) w (cwC s) (obC rm) (obC nul) h.olt)
  have H3 : Hid (Below w.heap.size w (((w.alloc (cwC s)).alloc (obC rm)).alloc (obC nul))) := Lib.hid (bthen (below2 w _ _) (below1 _ _))
  have HA := Lib.hid (fun w2 (hb : Below w.heap.size w w2) => mayWrite_at (h.below hb) rm)
  have HP := Lib.hid (fun w2 (hb : Below w.heap.size w w2) => part_at (h.below hb) rm 0 b.length)
  have HW := Lib.hid (fun w2 (hb : Below w.heap.size w w2) => write_at (c0 := c0) (h.below hb) (hS.below hb) q 0)
  have HO := Lib.hid h.olt
  rw [hac] at HA
  rw [hp] at HP
  rw [hw, hg] at HW
  unfold cwC obC nul at HB H3
  unfold ObE at HP
  unfold Ob.val at HA HP HW
  unfold cw at HA
  unfold LayP cw Ob.val
  clear h hS hac hp hw hg
  go_enter Tryz.func56, Tryz.ntmps56
  go_wp2_with fail
  refine (HA.out _ H3.out).mono ?_; rintro e w2 ⟨rfl, hb2⟩
  have K2 := HB.out.below hb2
  have c0' := cellCv K2.b2
  obtain ⟨x0, x1, x2, x3, x4, x5, x6, x7⟩ := cellsOb K2.b1
  have HB2 := Lib.hid (bthen H3.out hb2)
  have HK2 := Lib.hid K2
  clear hb2 K2 HA
  go_wp2_with fail
  refine (HP.out _ HB2.out).mono ?_; rintro e w4 ⟨rfl, hb4⟩
  have K4 := HK2.out.below hb4
  have HB4 := Lib.hid (bthen HB2.out hb4)
  clear c0' x0 x1 x2 x3 x4 x5 x6 x7 hb4 HP HK2 HB2
  have hz := heap_alloc_new w4 (obC q)
  have K5 := K4.below (below1 w4 (obC q))
  have hb5 := bthen HB4.out (below1 w4 (obC q))
  unfold obC at hz K5 hb5
  have hsz : w.heap.size + 3 ≤ w4.heap.size := by have := (Array.getElem?_eq_some_iff.1 K4.b0).1; omega
  clear K4
  go_upto_region 6 with fail
  generalize w4.alloc (.cells #[.int .i64 q.kind, .bool q.exec, .int .i64 q.acc, .int .i64 q.n, .string q.name, .int .i64 q.ref, .int .i64 q.frm, .int .i64 q.len] 27) = W at *
  generalize w4.heap.size = P at *
  obtain ⟨y0, y1, y2, y3, y4, y5, y6, y7⟩ := cellsOb hz
  have c0' := cellCv K5.b2
  have n1 : P ≠ w.heap.size + 1 + 1 := by omega
  have n2 : w.heap.size ≠ w.heap.size + 1 + 1 := by omega
  have HN := Lib.hid (show ¬ O P ∧ ¬ O w.heap.size ∧ ¬ O (w.heap.size + 1 + 1) from ⟨fun e => by have := HO.out _ e; omega, fun e => by have := HO.out _ e; omega, fun e => by have := HO.out _ e; omega⟩)
  have HR := Lib.hid K5.b0
  have HB5 := Lib.hid hb5
  have HL := Lib.hid (HW.out W.drew (below_draw hb5 1))
  have sI := And.intro y0 (And.intro y1 (And.intro y2 (And.intro y3 (And.intro y4 (And.intro y5 (And.intro y6 (And.intro y7 c0')))))))
  have sD : W.drew.cell? ⟨P, 0, none⟩ = some (.int .i64 q.kind) ∧ W.drew.cell? ⟨P, 1, none⟩ = some (.bool q.exec) ∧ W.drew.cell? ⟨P, 2, none⟩ = some (.int .i64 q.acc) ∧ W.drew.cell? ⟨P, 3, none⟩ = some (.int .i64 q.n) ∧ W.drew.cell? ⟨P, 4, none⟩ = some (.string q.name) ∧ W.drew.cell? ⟨P, 5, none⟩ = some (.int .i64 q.ref) ∧ W.drew.cell? ⟨P, 6, none⟩ = some (.int .i64 q.frm) ∧ W.drew.cell? ⟨P, 7, none⟩ = some (.int .i64 q.len) ∧ W.drew.cell? ⟨w.heap.size, 0, none⟩ = some (.pointer (some ⟨s, 0, none⟩)) := sI
  clear hz K5 hb5 hsz HW
  go_cut [7] (fun v wx => v = .int .i64 0 ∧ ∃ w6, Frm O W w6 ∧ Rep O w6 s fr G' ∧ Put8 w6 (w.heap.size + 1 + 1) 27 (.int .i64 q.kind) (.bool q.exec) (.int .i64 q.acc) (.int .i64 q.n) (.string q.name) (.int .i64 q.ref) (.int .i64 q.frm) (.int .i64 q.len) wx)
  case first =>
    go_region_held3 (fun w' => w'.cell? ⟨P, 0, none⟩ = some (.int .i64 q.kind) ∧ w'.cell? ⟨P, 1, none⟩ = some (.bool q.exec) ∧ w'.cell? ⟨P, 2, none⟩ = some (.int .i64 q.acc) ∧ w'.cell? ⟨P, 3, none⟩ = some (.int .i64 q.n) ∧ w'.cell? ⟨P, 4, none⟩ = some (.string q.name) ∧ w'.cell? ⟨P, 5, none⟩ = some (.int .i64 q.ref) ∧ w'.cell? ⟨P, 6, none⟩ = some (.int .i64 q.frm) ∧ w'.cell? ⟨P, 7, none⟩ = some (.int .i64 q.len) ∧ w'.cell? ⟨w.heap.size, 0, none⟩ = some (.pointer (some ⟨s, 0, none⟩))) (first | with_reducible exact sD | with_reducible exact sI | with_reducible exact sL | with_reducible exact keep9 n1 n2 sL | fail) ((go_at_call 71; refine HL.out.mono ?_; rintro e wL hT; obtain ⟨rfl, hF, hRL⟩ := turn_ok hT; have sL := cell9 hF HN.out.1 HN.out.2.1 sD; have hz := (hF.block _ (Array.getElem?_eq_some_iff.1 HR.out).1 HN.out.2.2).trans HR.out; obtain ⟨r0, r1, r2, r3, r4, r5, r6, r7⟩ := cellsOb hz; have rf := blk_free hz))
    all_goals go_wp2_with fail
    all_goals go_meet
    exact ⟨rfl, wL, ⟨hF.os, hF.tape, hF.output, hF.size, hF.block⟩, hRL, put8 hz _ _ _ _ _ _ _ _⟩
  case rest =>
    obtain ⟨rfl, w6, hF, hR, hp⟩ := hcut
    have HE := Lib.hid (And.intro hF (And.intro hR hp))
    clear hF hR hp
    go_wp2_with fail
    have hp := HE.out.2.2
    have hFa : Frm O w wc := ⟨hp.os.trans (HE.out.1.os.trans HB5.out.os), hp.tape.trans (HE.out.1.tape.trans HB5.out.tape), hp.output.trans (HE.out.1.output.trans HB5.out.output), by rw [hp.size]; exact Nat.le_trans HB5.out.size HE.out.1.size, fun k hk hO => (hp.far k (by omega)).trans ((HE.out.1.block k (Nat.lt_of_lt_of_le hk HB5.out.size) hO).trans (HB5.out.block k hk))⟩
    refine bodyPost_ret (results_ob2 Tryz.results56 _ _ (w.heap.size + 1 + 1) rfl rfl hp.blk) rfl ⟨rfl, hFa, ?_⟩
    exact HE.out.2.1.same (by rw [hp.size]; exact Nat.le_refl _) (fun k _ hk => hp.far k (fun e => HN.out.2.2 (by rw [← e]; exact hk)))
end Cv
end Go.Proofs.YtfilbfenpdaahaaGreatDoor
