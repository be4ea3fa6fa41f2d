/-
  What each call that the law makes leaves: the store, with things as the law makes them.
-/
import Derived.Test.YtlflkdmbbomjeaaStoPick
import Derived.Test.YtlflkdmbbomjeaaStoSet2
import Derived.Test.YtlflkdmbbomjeaaStoDrop2
import Derived.Test.YtlflkdmbbomjeaaStoWrite
import Derived.Test.YtlflkdmbbomjeaaStoPut3
namespace Go.Proofs.Ytlflkdmbbomjeaa
open Go.RowKit
open St
def Upd (O : Nat → Prop) (w : World) (s : Nat) (w' : World) : Prop := Frm O w w' ∧ ∃ O' fr' G', Rep O' w' s fr' G' ∧ Gd G' ∧ ∀ k, O' k → O k ∨ w.heap.size ≤ k
def MkU (O : Nat → Prop) (w : World) (s : Nat) (e : Ending) (w' : World) : Prop := (∃ (p : Ob) (E : Int), e = .returned (.tuple #[p.val, .int .i64 E]) ∧ Good p) ∧ Upd O w s w'
def ErU (O : Nat → Prop) (w : World) (s : Nat) (e : Ending) (w' : World) : Prop := (∃ E : Int, e = .returned (.int .i64 E)) ∧ Upd O w s w'
theorem good_nul : Good nul := good_mk (by omega) (by omega) nosize _ _ _
theorem upd_below {O : Nat → Prop} {w w' : World} {s : Nat} {fr : Int} {G : List (Th × Lay)} (h : Rep O w s fr G) (hG : Gd G) (hb : Below w.heap.size w w') : Upd O w s w' := ⟨Frm.of_below hb, O, fr, G, h.below hb, hG, fun _ e => .inl e⟩
theorem up_of {O : Nat → Prop} {w w' : World} : ∀ k, Up O w w' k → O k ∨ w.heap.size ≤ k := fun _ e => by
  rcases e with e | e
  · exact .inl e
  · exact .inr e.1
theorem gd_modify {G : List (Th × Lay)} {t : Nat} {f : Th × Lay → Th × Lay} (hG : Gd G) (hf : ∀ y, G[t]? = some y → GoodT (f y).1) : Gd (G.modify t f) := by
  intro i x hx
  rw [List.getElem?_modify] at hx
  by_cases e : t = i
  · subst e
    cases hy : G[t]? with
    | none => rw [hy] at hx; simp at hx
    | some y =>
      rw [hy] at hx
      have e2 : f y = x := by simpa using hx
      rw [← e2]
      exact hf y hy
  · simp only [if_neg e] at hx
    exact hG i x (by simpa using hx)
theorem gd_snoc {G : List (Th × Lay)} {t : Th} {l : Lay} (hG : Gd G) (ht : GoodT t) : Gd (G ++ [(t, l)]) := by
  intro i x hx
  rcases Nat.lt_or_ge i G.length with h | h
  · rw [List.getElem?_append_left h] at hx
    exact hG i x hx
  · rw [List.getElem?_append_right h] at hx
    have := List.mem_of_getElem? hx
    have e : x = (t, l) := by simpa using this
    rw [e]
    exact ht
theorem made_up {O : Nat → Prop} {w w' : World} {s : Nat} {fr k n : Int} {G : List (Th × Lay)} {t : Th} {e : Ending} (h : Rep O w s fr G) (hG : Gd G) (ht : clm k n fr = 0 → GoodT t) (hk : 0 ≤ t.kind ∧ t.kind ≤ 10) (hM : Made O w s fr G t k n e w') : MkU O w s e w' := by
  rcases hM with ⟨_, rfl, hb⟩ | ⟨hc, rfl, l, hR, hF⟩
  · exact ⟨⟨nul, _, rfl, good_nul⟩, upd_below h hG hb⟩
  · exact ⟨⟨newOb t G.length, 0, rfl, good_mk hk (by omega) nosize _ _ _⟩, hF, _, _, _, hR, gd_snoc hG (ht hc), up_of⟩
theorem string_up {O : Nat → Prop} {w : World} {s : Nat} {fr : Int} {G : List (Th × Lay)} (h : Rep O w s fr G) (hG : Gd G) (n : Int) (hn : n ≤ 300) :
    Calls Try.prog 56 #[.pointer (some ⟨s, 0, none⟩), .int .i64 n] w (MkU O w s) :=
  (string_at h n).mono fun e w' hM => made_up h hG (fun _ => ⟨fun o ho => (by cases ho), fun o ho => (by cases ho), by simp, by simp, by simp; omega, by simp, by simp, by simp⟩) ⟨(by decide : (0 : Int) ≤ 6), (by decide : (6 : Int) ≤ 10)⟩ hM
theorem array_up {O : Nat → Prop} {w : World} {s : Nat} {fr : Int} {G : List (Th × Lay)} (h : Rep O w s fr G) (hG : Gd G) (n : Int) (hn : n ≤ 300) :
    Calls Try.prog 42 #[.pointer (some ⟨s, 0, none⟩), .int .i64 n] w (MkU O w s) :=
  (array_at h n).mono fun e w' hM => made_up h hG (fun _ => ⟨fun o ho => by rw [(List.mem_replicate.1 ho).2]; exact good_nul, fun o ho => (by cases ho), by simp; omega, by simp, by simp, by simp, by simp, by simp⟩) ⟨(by decide : (0 : Int) ≤ 7), (by decide : (7 : Int) ≤ 10)⟩ hM
theorem dict_up {O : Nat → Prop} {w : World} {s : Nat} {fr : Int} {G : List (Th × Lay)} (h : Rep O w s fr G) (hG : Gd G) (n : Int) (hn : n ≤ 300) :
    Calls Try.prog 50 #[.pointer (some ⟨s, 0, none⟩), .int .i64 n] w (MkU O w s) :=
  (dict_at h n).mono fun e w' hM => made_up h hG (fun _ => ⟨fun o ho => (by cases ho), fun o ho => (by cases ho), by simp, by simp, by simp, by simp, by simp, hn⟩) ⟨(by decide : (0 : Int) ≤ 8), (by decide : (8 : Int) ≤ 10)⟩ hM
theorem text_up {O : Nat → Prop} {w : World} {s c : Nat} {fr : Int} {G : List (Th × Lay)} {a : Option Addr} {b : List UInt8} (h : Rep O w s fr G) (hG : Gd G) (hS : Src w a b) (hb : b.length ≤ 1000) :
    Calls Try.prog 29 #[.pointer (some ⟨s, 0, none⟩), .slice a b.length c] w (MkU O w s) :=
  (text_at (c := c) h hS).mono fun e w' hM => made_up h hG (fun _ => ⟨fun o ho => (by cases ho), fun o ho => (by cases ho), by simp, by simp, hb, by simp, by simp, by simp⟩) ⟨(by decide : (0 : Int) ≤ 6), (by decide : (6 : Int) ≤ 10)⟩ hM
theorem part_up {O : Nat → Prop} {w : World} {s : Nat} {fr : Int} {G : List (Th × Lay)} (h : Rep O w s fr G) (hG : Gd G) (o : Ob) (ho : Good o) (f m : Int) :
    Calls Try.prog 17 #[.pointer (some ⟨s, 0, none⟩), o.val, .int .i64 f, .int .i64 m] w (MkU O w s) :=
  (part_at h o f m).mono fun e w' ⟨he, hb⟩ => by
    refine ⟨⟨(partR G o f m).1, (partR G o f m).2, he, ?_⟩, upd_below h hG hb⟩
    unfold partR
    split
    · exact good_nul
    · split
      · exact ⟨ho.k0, ho.k1, ho.a0, ho.a1, ho.n0, ho.n1, ho.nm⟩
      · exact good_nul
theorem turn_up {O : Nat → Prop} {w w' : World} {s : Nat} {fr E : Int} {G G' : List (Th × Lay)} {e : Ending} (h : Rep O w s fr G) (hG : Gd G) (hG' : E = 0 → Gd G') (hT : Turn O w s fr E G' e w') : ErU O w s e w' := by
  obtain ⟨rfl, hor⟩ := hT
  rcases hor with ⟨_, hb⟩ | ⟨hE, hR, hF⟩
  · exact ⟨⟨_, rfl⟩, upd_below h hG hb⟩
  · exact ⟨⟨_, rfl⟩, hF, O, fr, G', hR, hG' hE, fun _ e => .inl e⟩
theorem lock_up {O : Nat → Prop} {w : World} {s : Nat} {fr : Int} {G : List (Th × Lay)} (h : Rep O w s fr G) (hG : Gd G) (o : Ob) (a : Int) :
    Calls Try.prog 24 #[.pointer (some ⟨s, 0, none⟩), o.val, .int .i64 a] w (ErU O w s) :=
  (lock_at h o a).mono fun e w' hT => turn_up h hG (fun hE => by
    unfold lockE at hE
    unfold lockR
    split at hE
    · cases hE
    · split at hE
      · rename_i ha
        split
        · rename_i t ht
          refine gd_modify hG (fun y hy => ?_)
          have := hG t y hy
          exact ⟨this.it, this.pr, this.li, this.lp, this.lb, ha.1, ha.2, this.lm⟩
        · exact hG
      · cases hE) hT
theorem write_up {O : Nat → Prop} {w : World} {s c0 : Nat} {fr : Int} {G : List (Th × Lay)} {a : Option Addr} {b : List UInt8} (h : Rep O w s fr G) (hG : Gd G) (hS : Src w a b) (o : Ob) (at_ : Int) :
    Calls Try.prog 13 #[.pointer (some ⟨s, 0, none⟩), o.val, .int .i64 at_, .slice a b.length c0] w (ErU O w s) :=
  (write_at (c0 := c0) h hS o at_).mono fun e w' hT => turn_up h hG (fun hE => by
    unfold writeE at hE
    unfold writeR
    split at hE
    · cases hE
    · split at hE
      · rename_i hl
        split
        · rename_i t ht
          refine gd_modify hG (fun y hy => ?_)
          have g := hG t y hy
          obtain ⟨_, _, x, hx, hk6, hlx⟩ := tld_some ht
          rw [hy] at hx
          cases hx
          have l1 := liesB_iff.1 hl
          have l2 := liesB_iff.1 hlx
          rw [bytes_len6 hk6] at l2
          have := g.lb
          refine ⟨g.it, g.pr, g.li, g.lp, ?_, g.a0, g.a1, g.lm⟩
          simp only [wrF, List.length_append, List.length_take, List.length_drop]
          omega
        · exact hG
      · cases hE) hT
theorem put_up {O : Nat → Prop} {w : World} {s : Nat} {fr : Int} {G : List (Th × Lay)} (h : Rep O w s fr G) (hG : Gd G) (o : Ob) (i : Int) (x : Ob) (hx : Good x) :
    Calls Try.prog 15 #[.pointer (some ⟨s, 0, none⟩), o.val, .int .i64 i, x.val] w (ErU O w s) :=
  (put_at h o i x).mono fun e w' ⟨he, hor⟩ => by
    rcases hor with ⟨_, hb⟩ | ⟨_, t, _, hR, hF⟩
    · exact ⟨⟨_, he⟩, upd_below h hG hb⟩
    · refine ⟨⟨_, he⟩, hF, O, fr, _, hR, gd_modify hG (fun y hy => ?_), fun _ e => .inl e⟩
      have g := hG t y hy
      refine ⟨fun z hz => ?_, g.pr, by simp only [putF, List.length_set]; exact g.li, g.lp, g.lb, g.a0, g.a1, g.lm⟩
      rcases List.mem_or_eq_of_mem_set hz with e | e
      · exact g.it z e
      · rw [e]; exact hx
theorem keyR_good {G : List (Th × Lay)} (k : Ob) (hk : Good k) : Good (keyR G k).1 := by
  unfold keyR
  split
  · split
    · exact good_nul
    · split
      · unfold nameR
        split
        · exact good_nul
        · rename_i hl
          refine good_mk (by omega) (by omega) ?_ _ _ _
          rw [size_mk]
          unfold bytesR
          split
          · split
            · rw [List.length_take]; omega
            · simp
          · simp
      · unfold plainR
        split
        · refine good_mk (by omega) ?_ nosize _ _ _
          have h0 := hk.n0
          have h1 := hk.n1
          have e1 : k.n.tdiv 65536 = k.n / 65536 := Int.tdiv_eq_ediv_of_nonneg h0
          have e2 : wrap64 (k.n.tdiv 65536) = k.n / 65536 := by rw [e1]; unfold wrap64; omega
          show 0 ≤ wrap64 (k.n.tdiv 65536) ∧ wrap64 (k.n.tdiv 65536) ≤ 10000000
          rw [e2]
          omega
        · exact ⟨hk.k0, hk.k1, Int.le_refl _, (by decide : (0 : Int) ≤ 3), hk.n0, hk.n1, hk.nm⟩
  · exact good_nul
theorem set_up {O : Nat → Prop} {w : World} {s : Nat} {fr : Int} {G : List (Th × Lay)} (h : Rep O w s fr G) (hG : Gd G) (d k x : Ob) (hk : Good k) (hx : Good x) :
    Calls Try.prog 19 #[.pointer (some ⟨s, 0, none⟩), d.val, k.val, x.val] w (ErU O w s) :=
  (set_at h d k x).mono fun e w' ⟨he, hor⟩ => by
    rcases hor with ⟨_, hb⟩ | ⟨_, v, hR, hF⟩
    · exact ⟨⟨_, he⟩, upd_below h hG hb⟩
    · refine ⟨⟨_, he⟩, hF, _, fr, _, hR, ?_, up_of⟩
      have hR2 := hR
      unfold setR at hR2 ⊢
      split
      · exact hG
      · rename_i t ht
        simp only [ht] at hR2
        split
        · exact hG
        · rename_i y hy
          simp only [hy] at hR2
          have g := hG t y hy
          split
          · rename_i i hi
            refine gd_modify hG (fun z hz => ?_)
            rw [hy] at hz
            cases hz
            refine ⟨g.it, fun p hp => ?_, g.li, by simp only [setF, List.length_set]; exact g.lp, g.lb, g.a0, g.a1, g.lm⟩
            rcases List.mem_or_eq_of_mem_set hp with e | e
            · exact g.pr p e
            · rw [e]; exact ⟨keyR_good k hk, hx⟩
          · rename_i hi
            simp only [hi] at hR2
            have hy2 : (G.modify t (addF (keyR G k).1 x v))[t]? = some (addF (keyR G k).1 x v y) := by rw [List.getElem?_modify, hy]; simp
            have hnm := (hR2.row t _ hy2).nm
            refine gd_modify hG (fun z hz => ?_)
            rw [hy] at hz
            cases hz
            refine ⟨g.it, fun p hp => ?_, g.li, ?_, g.lb, g.a0, g.a1, g.lm⟩
            · rcases List.mem_append.1 hp with e | e
              · exact g.pr p e
              · have e2 : p = ((keyR G k).1, x) := by simpa using e
                rw [e2]; exact ⟨keyR_good k hk, hx⟩
            · have h1 := hnm.1
              have h2 := g.lm
              have h3 : (addF (keyR G k).1 x v y).1.most = y.1.most := rfl
              omega
theorem drop_up {O : Nat → Prop} {w : World} {s : Nat} {fr : Int} {G : List (Th × Lay)} (h : Rep O w s fr G) (hG : Gd G) (d k : Ob) :
    Calls Try.prog 21 #[.pointer (some ⟨s, 0, none⟩), d.val, k.val] w (ErU O w s) :=
  (drop_at h d k).mono fun e w' ⟨he, hor⟩ => by
    rcases hor with ⟨_, hb⟩ | ⟨_, v, hR, hF⟩
    · exact ⟨⟨_, he⟩, upd_below h hG hb⟩
    · refine ⟨⟨_, he⟩, hF, _, fr, _, hR, ?_, up_of⟩
      unfold dropR
      split
      · exact hG
      · rename_i t ht
        split
        · exact hG
        · rename_i y hy
          have g := hG t y hy
          split
          · rename_i i hi
            refine gd_modify hG (fun z hz => ?_)
            rw [hy] at hz
            cases hz
            refine ⟨g.it, fun p hp => g.pr p (List.mem_of_mem_eraseIdx hp), g.li, ?_, g.lb, g.a0, g.a1, g.lm⟩
            have := g.lp
            simp only [prsF]
            rw [List.length_eraseIdx]
            split <;> omega
          · exact hG
end Go.Proofs.Ytlflkdmbbomjeaa
