/-
  Access is taken away: bar, of a string, an array and a dictionary; what may be done is asked: check; by contracts.
-/
import Derived.Test.YtfilbfenpdaahaaGreatDoorCnvAsk
import Derived.Deep.RegionHeld3
namespace Go.Proofs.YtfilbfenpdaahaaGreatDoor
open Go.RowKit
open St
open Stk
open Col
namespace Cv
/-- why access b is not given to a thing of kind k and access a -/
def okE (k a b : Int) : Int := if k = 8 ∧ b = 2 then 16 else if a = 3 ∧ b ≠ 3 then 5 else 0
/-- a thing that is locked: what is known of it -/
structure LkR (O : Nat → Prop) (s : Nat) (k a : Int) (o : Ob) (w : World) : Prop where
  kd : k = 6 ∨ k = 7
  ok : o.kind = k
  oa : o.acc = a
  rep : ∃ fr G, Rep O w s fr G ∧ valid G o = true
structure LkD (O : Nat → Prop) (s : Nat) (k a : Int) (o : Ob) (w : World) : Prop where
  kd : k = 8
  rep : ∃ fr n l ex, Rep O w s fr [(⟨8, [], [], [], n, a⟩, l)] ∧ o = ⟨8, ex, 0, 0, ⟨#[]⟩, 1, 0, 0⟩
def Lk (O : Nat → Prop) (s : Nat) (k a : Int) (o : Ob) (w : World) : Prop := (0 ≤ a ∧ a ≤ 3) ∧ (LkR O s k a o w ∨ LkD O s k a o w)
theorem Lk.below {O : Nat → Prop} {s : Nat} {k a : Int} {o : Ob} {w w' : World} (h : Lk O s k a o w) (hb : Below w.heap.size w w') : Lk O s k a o w' := by
  refine ⟨h.1, ?_⟩
  rcases h.2 with h | h
  · obtain ⟨fr, G, hr, hv⟩ := h.rep
    exact .inl ⟨h.kd, h.ok, h.oa, fr, G, hr.below hb, hv⟩
  · obtain ⟨fr, n, l, ex, hr, ho⟩ := h.rep
    exact .inr ⟨h.kd, fr, n, l, ex, hr.below hb, ho⟩
theorem tld_d (n a : Int) (l : Lay) (ex : Bool) : tld [(⟨8, [], [], [], n, a⟩, l)] ⟨8, ex, 0, 0, ⟨#[]⟩, 1, 0, 0⟩ 8 = some 0 := by simp [tld, Th.length, liesB]
/-- out of it: a store in which it is valid, and has that access -/
theorem Lk.out {O : Nat → Prop} {s : Nat} {k a : Int} {o : Ob} {w : World} (h : Lk O s k a o w) : ∃ fr G, Rep O w s fr G ∧ valid G o = true ∧ acs G o = a ∧ o.kind = k ∧ held o = true := by
  rcases h.2 with h | h
  · obtain ⟨fr, G, hr, hv⟩ := h.rep
    refine ⟨fr, G, hr, hv, ?_, h.ok, ?_⟩
    · unfold acs; rw [h.ok, if_neg (by rcases h.kd with e | e <;> omega), h.oa]
    · unfold held; rw [h.ok]; rcases h.kd with e | e <;> rw [e] <;> rfl
  · obtain ⟨fr, n, l, ex, hr, rfl⟩ := h.rep
    refine ⟨fr, _, hr, ?_, ?_, h.kd.symm, rfl⟩
    · unfold valid; rw [if_pos (by simp), tld_d]; rfl
    · unfold acs; rw [if_pos rfl]; unfold dicT; rw [tld_d]; rfl
def BarP (O : Nat → Prop) (s : Nat) (k a b : Int) (o : Ob) (w : World) (e : Ending) (w' : World) : Prop :=
  Frm O w w' ∧ ((okE k a b ≠ 0 ∧ e = .returned (.tuple #[nul.val, .int .i64 (okE k a b)]) ∧ Lk O s k a o w') ∨ (okE k a b = 0 ∧ ∃ o', e = .returned (.tuple #[o'.val, .int .i64 0]) ∧ Lk O s k (max a b) o' w'))
set_option maxRecDepth 100000 in
set_option maxHeartbeats 1000000 in
theorem bar_row {O : Nat → Prop} {s : Nat} {k a b : Int} {o : Ob} {w : World} (h : LkR O s k a o w) (ha : 0 ≤ a ∧ a ≤ 3) (hb : 1 ≤ b ∧ b ≤ 3) :
    Calls Tryz.prog 41 #[cw s, o.val, .int .i64 b] w (BarP O s k a b o w) := by
  have HLk := Lib.hid h
  obtain ⟨fr, G, hr, hv⟩ := h.rep
  have hk8 : o.kind ≠ 8 := by rw [h.ok]; rcases h.kd with e | e <;> omega
  have hkk : k ≠ 8 := by rcases h.kd with e | e <;> omega
  have hac : acs G o = a := by unfold acs; rw [if_neg hk8, h.oa]
  have hhl : held o = true := by unfold held; rw [h.ok]; rcases h.kd with e | e <;> rw [e] <;> rfl
  have HB := Lib.hid (bx3 (O := O) w (cwC s) (obC o) (obC nul) hr.olt)
  have HH := Lib.hid (fun w2 => isHeld_at o w2)
  have HA := Lib.hid (fun w2 (hb : Below w.heap.size w w2) => accessOf_at (hr.below hb) o)
  have H3 : Hid (Below w.heap.size w (((w.alloc (cwC s)).alloc (obC o)).alloc (obC nul))) := Lib.hid (bthen (below2 w _ _) (below1 _ _))
  have HRv := Lib.hid (fun (w2 : World) (hb : Below w.heap.size w w2) (o' : Ob) (h1 : o'.kind = o.kind) (h2 : o'.ref = o.ref) (h3 : o'.frm = o.frm) (h4 : o'.len = o.len) => (show ∃ fr G, Rep O w2 s fr G ∧ valid G o' = true from ⟨fr, G, hr.below hb, by
    rw [← hv]; unfold valid tld; rw [h1, h2, h3, h4]⟩))
  have e8 : (o.kind == 8) = false := by simp [hk8]
  have hE : okE k a b = if a = 3 ∧ b ≠ 3 then 5 else 0 := by unfold okE; rw [if_neg (fun e => hkk e.1)]
  rw [hac] at HA
  rw [hhl] at HH
  unfold cwC obC nul at HB H3
  unfold Ob.val at HH HA
  unfold cw at HA
  unfold cw Ob.val
  have HK := Lib.hid (And.intro h.kd (And.intro h.ok h.oa))
  clear h hr hv hk8 hkk hac hhl
  by_cases h35 : a = 3 ∧ b ≠ 3
  · have HE := Lib.hid (by rw [hE, if_pos h35] : okE k a b = 5)
    have g1 : (a == 3) = true := by simp [h35.1]
    have g2 : (b != 3) = true := by simp [h35.2]
    have HL2 := Lib.hid (And.intro ha hb)
    clear hE h35 ha hb
    go_enter Tryz.func41, Tryz.ntmps41
    go_wp2_with fail
    refine (HH.out _).mono ?_; rintro e w2 ⟨rfl, hb2⟩
    have K2 := HB.out.below hb2
    have c0 := cellCv K2.b2
    obtain ⟨x0, x1, x2, x3, x4, x5, x6, x7⟩ := cellsOb K2.b1
    obtain ⟨z0, z1, z2, z3, z4, z5, z6, z7⟩ := cellsOb K2.b0
    have HB2 := Lib.hid (bthen H3.out hb2)
    have HK2 := Lib.hid K2
    clear hb2 K2
    go_wp2_with fail
    refine (HA.out _ HB2.out).mono ?_; rintro e w3 ⟨rfl, hb3⟩
    have K3 := HK2.out.below hb3
    have HB3 := Lib.hid (bthen HB2.out hb3)
    have HZ := Lib.hid K3.b0
    have HK3 := Lib.hid K3
    clear c0 x0 x1 x2 x3 x4 x5 x6 x7 z0 z1 z2 z3 z4 z5 z6 z7 hb3
    have zf := blk_free K3.b0
    obtain ⟨z0, z1, z2, z3, z4, z5, z6, z7⟩ := cellsOb K3.b0
    clear K3
    go_wp2_with fail
    have hp := put8 HZ.out (.int .i64 0) (.bool false) (.int .i64 0) (.int .i64 0) (.string ⟨#[]⟩) (.int .i64 0) (.int .i64 0) (.int .i64 0)
    have hbw := below_put8 HB3.out (by omega) hp
    refine bodyPost_ret (results_ob2 Tryz.results41 _ _ (w.heap.size + 1 + 1) rfl rfl hp.blk) rfl ⟨Frm.of_below hbw, Or.inl ⟨by rw [HE.out]; decide, by rw [HE.out]; rfl, ?_⟩⟩
    exact (show Lk O s k a o w from ⟨HL2.out.1, .inl HLk.out⟩).below hbw
  · have HE := Lib.hid (by rw [hE, if_neg h35] : okE k a b = 0)
    clear hE
    by_cases hge : b ≤ a
    · have hm : max a b = a := Int.max_eq_left hge
      have g3 : decide (b ≤ a) = true := decide_eq_true hge
      have HL2 := Lib.hid (And.intro ha (And.intro hb hm))
      have HG := Lib.hid h35
      clear ha hb h35 hm hge
      go_enter Tryz.func41, Tryz.ntmps41
      go_wp2_with fail
      refine (HH.out _).mono ?_; rintro e w2 ⟨rfl, hb2⟩
      have K2 := HB.out.below hb2
      have c0 := cellCv K2.b2
      obtain ⟨x0, x1, x2, x3, x4, x5, x6, x7⟩ := cellsOb K2.b1
      have HB2 := Lib.hid (bthen H3.out hb2)
      have HK2 := Lib.hid K2
      clear hb2 K2
      go_wp2_with fail
      refine (HA.out _ HB2.out).mono ?_; rintro e w3 ⟨rfl, hb3⟩
      have K3 := HK2.out.below hb3
      have HB3 := Lib.hid (bthen HB2.out hb3)
      have HZ := Lib.hid K3.b0
      clear c0 x0 x1 x2 x3 x4 x5 x6 x7 hb3
      obtain ⟨x0, x1, x2, x3, x4, x5, x6, x7⟩ := cellsOb K3.b1
      have zf := blk_free K3.b0
      obtain ⟨z0, z1, z2, z3, z4, z5, z6, z7⟩ := cellsOb K3.b0
      clear K3
      have hb3' : ∃ d1 d2, (a == 3) = d1 ∧ (b != 3) = d2 ∧ (d1 = false ∨ d2 = false) := ⟨_, _, rfl, rfl, by
        by_cases e1 : a = 3
        · right
          have : b = 3 := Classical.byContradiction (fun e2 => HG.out ⟨e1, e2⟩)
          simp [this]
        · left; simp [e1]⟩
      obtain ⟨d1, d2, q1, q2, hor⟩ := hb3'
      rcases hor with rfl | rfl
      all_goals (try cases d1)
      all_goals
        go_wp2_with fail
        have hp := put8 HZ.out (.int .i64 o.kind) (.bool o.exec) (.int .i64 o.acc) (.int .i64 o.n) (.string o.name) (.int .i64 o.ref) (.int .i64 o.frm) (.int .i64 o.len)
        have hbw := below_put8 HB3.out (by omega) hp
        refine bodyPost_ret (results_ob2 Tryz.results41 _ _ (w.heap.size + 1 + 1) rfl rfl hp.blk) rfl ⟨Frm.of_below hbw, Or.inr ⟨HE.out, o, rfl, ?_⟩⟩
        rw [HL2.out.2.2]
        exact (show Lk O s k a o w from ⟨HL2.out.1, .inl HLk.out⟩).below hbw
    · have hm : max a b = b := Int.max_eq_right (by omega)
      have g1 : (a == 3) = false := by simp; omega
      have g3 : decide (b ≤ a) = false := decide_eq_false hge
      have HL2 := Lib.hid (And.intro ha (And.intro hb hm))
      clear ha hb h35 hm hge
      go_enter Tryz.func41, Tryz.ntmps41
      go_wp2_with fail
      refine (HH.out _).mono ?_; rintro e w2 ⟨rfl, hb2⟩
      have K2 := HB.out.below hb2
      have c0 := cellCv K2.b2
      obtain ⟨x0, x1, x2, x3, x4, x5, x6, x7⟩ := cellsOb K2.b1
      have HB2 := Lib.hid (bthen H3.out hb2)
      have HK2 := Lib.hid K2
      clear hb2 K2
      go_wp2_with fail
      refine (HA.out _ HB2.out).mono ?_; rintro e w3 ⟨rfl, hb3⟩
      have K3 := HK2.out.below hb3
      have HB3 := Lib.hid (bthen HB2.out hb3)
      have HZ := Lib.hid K3.b0
      clear c0 x0 x1 x2 x3 x4 x5 x6 x7 hb3
      obtain ⟨x0, x1, x2, x3, x4, x5, x6, x7⟩ := cellsOb K3.b1
      have xf := blk_free K3.b1
      have zf := blk_free K3.b0
      obtain ⟨z0, z1, z2, z3, z4, z5, z6, z7⟩ := cellsOb K3.b0
      clear K3
      go_wp2_with fail
      have hp := put8 ((blk_far (by omega) (.int .i64 b) (B := w.heap.size + 1) (j := 2)).trans HZ.out) (.int .i64 o.kind) (.bool o.exec) (.int .i64 b) (.int .i64 o.n) (.string o.name) (.int .i64 o.ref) (.int .i64 o.frm) (.int .i64 o.len)
      have hbw := below_put8 (below_set HB3.out (a := ⟨w.heap.size + 1, 2, none⟩) (by simp) (.int .i64 b)) (by omega) hp
      refine bodyPost_ret (results_ob2 Tryz.results41 _ _ (w.heap.size + 1 + 1) rfl rfl hp.blk) rfl ⟨Frm.of_below hbw, Or.inr ⟨HE.out, ⟨o.kind, o.exec, b, o.n, o.name, o.ref, o.frm, o.len⟩, rfl, ?_⟩⟩
      rw [HL2.out.2.2]
      exact ⟨⟨by have := HL2.out.2.1; omega, HL2.out.2.1.2⟩, .inl ⟨HK.out.1, HK.out.2.1, rfl, HRv.out _ hbw _ rfl rfl rfl rfl⟩⟩
end Cv
end Go.Proofs.YtfilbfenpdaahaaGreatDoor
